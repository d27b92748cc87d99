/- The document's pool: Take's ends (plain). -/
import Derived.Test.YtlaigjapnmgjeaaQg
namespace Go.Proofs.Ytlaigjapnmgjeaa
open Go.RowKit
set_option linter.unusedVariables false

theorem tp_lease (w : World) (m l r : Int) (v : Value) : TP w (w.heap.size + 1) m l r v (((w.alloc (.cells #[.int .i64 m, .int .i64 l, .int .i64 r, v] 28)).alloc (.cells #[.int .i64 0, .int .i64 0, .int .i64 0, .slice none 0 0] 28)).alloc (.cells #[.int .i64 0, .int .i64 0, .bool false] 36)) ∧ (((w.alloc (.cells #[.int .i64 m, .int .i64 l, .int .i64 r, v] 28)).alloc (.cells #[.int .i64 0, .int .i64 0, .int .i64 0, .slice none 0 0] 28)).alloc (.cells #[.int .i64 0, .int .i64 0, .bool false] 36)).heap[w.heap.size + 1 + 1]? = some (.cells #[.int .i64 0, .int .i64 0, .bool false] 36) := by
  have s2 : ((w.alloc (.cells #[.int .i64 m, .int .i64 l, .int .i64 r, v] 28)).alloc (.cells #[.int .i64 0, .int .i64 0, .int .i64 0, .slice none 0 0] 28)).heap.size = w.heap.size + 1 + 1 := by simp
  refine ⟨(tp_two w m l r v).keep ((Below.refl _ _).alloc (by rw [s2]; exact Nat.le_refl _) _), ?_⟩
  have := tblk_new ((w.alloc (.cells #[.int .i64 m, .int .i64 l, .int .i64 r, v] 28)).alloc (.cells #[.int .i64 0, .int .i64 0, .int .i64 0, .slice none 0 0] 28)) (.cells #[.int .i64 0, .int .i64 0, .bool false] 36)
  rwa [s2] at this
theorem put_four {W : World} {b : Nat} {m l r m0 l0 r0 : Int} {v v0 : Value} (h : W.heap[b]? = some (.cells #[.int .i64 m0, .int .i64 l0, .int .i64 r0, v0] 28)) : ((((W.setCell ⟨b, 0, none⟩ (.int .i64 m)).setCell ⟨b, 1, none⟩ (.int .i64 l)).setCell ⟨b, 2, none⟩ (.int .i64 r)).setCell ⟨b, 3, none⟩ v).heap[b]? = some (.cells #[.int .i64 m, .int .i64 l, .int .i64 r, v] 28) := by
  have e1 := ni_set (o := 0) (v := .int .i64 m) h (by simp)
  have e2 := ni_set (o := 1) (v := .int .i64 l) e1 (by simp)
  have e3 := ni_set (o := 2) (v := .int .i64 r) e2 (by simp)
  have e4 := ni_set (o := 3) (v := v) e3 (by simp)
  simpa using e4
theorem put_three {W : World} {b : Nat} {h s h0 s0 : Int} {f f0 : Bool} (k : W.heap[b]? = some (.cells #[.int .i64 h0, .int .i64 s0, .bool f0] 36)) : (((W.setCell ⟨b, 0, none⟩ (.int .i64 h)).setCell ⟨b, 1, none⟩ (.int .i64 s)).setCell ⟨b, 2, none⟩ (.bool f)).heap[b]? = some (.cells #[.int .i64 h, .int .i64 s, .bool f] 36) := by
  have e1 := ni_set (o := 0) (v := .int .i64 h) k (by simp)
  have e2 := ni_set (o := 1) (v := .int .i64 s) e1 (by simp)
  have e3 := ni_set (o := 2) (v := .bool f) e2 (by simp)
  simpa using e3
theorem off_four {W : World} {b c : Nat} {x y z u : Value} (h : c ≠ b) : ((((W.setCell ⟨b, 0, none⟩ x).setCell ⟨b, 1, none⟩ y).setCell ⟨b, 2, none⟩ z).setCell ⟨b, 3, none⟩ u).heap[c]? = W.heap[c]? := ((Below.heap_setCell _ _ _ _ h).trans ((Below.heap_setCell _ _ _ _ h).trans ((Below.heap_setCell _ _ _ _ h).trans (Below.heap_setCell _ _ _ _ h))))
theorem off_three {W : World} {b c : Nat} {x y z : Value} (h : c ≠ b) : (((W.setCell ⟨b, 0, none⟩ x).setCell ⟨b, 1, none⟩ y).setCell ⟨b, 2, none⟩ z).heap[c]? = W.heap[c]? := ((Below.heap_setCell _ _ _ _ h).trans ((Below.heap_setCell _ _ _ _ h).trans (Below.heap_setCell _ _ _ _ h)))
theorem below_four {B b : Nat} {w0 W : World} {x y z u : Value} (h : Below B w0 W) (hb : B ≤ b) : Below B w0 ((((W.setCell ⟨b, 0, none⟩ x).setCell ⟨b, 1, none⟩ y).setCell ⟨b, 2, none⟩ z).setCell ⟨b, 3, none⟩ u) := (((h.setCell (p := ⟨b, 0, none⟩) hb _).setCell (p := ⟨b, 1, none⟩) hb _).setCell (p := ⟨b, 2, none⟩) hb _).setCell (p := ⟨b, 3, none⟩) hb _
theorem below_three {B b : Nat} {w0 W : World} {x y z : Value} (h : Below B w0 W) (hb : B ≤ b) : Below B w0 (((W.setCell ⟨b, 0, none⟩ x).setCell ⟨b, 1, none⟩ y).setCell ⟨b, 2, none⟩ z) := ((h.setCell (p := ⟨b, 0, none⟩) hb _).setCell (p := ⟨b, 1, none⟩) hb _).setCell (p := ⟨b, 2, none⟩) hb _
theorem results_c2t {fn : Func} {t u s : Tmp} {ty tz : TypeId} (h : fn.results = #[.cell t ty, .cell u tz, .tmp s]) (tmps : Array Value) (P : Program) (w : World) (a b : Addr) (x y v : Value)
    (ha : tmps.getD t undef = .pointer (some a)) (hb : tmps.getD u undef = .pointer (some b)) (hs : tmps.getD s undef = v) (hx : (loadVar ty a).run P w = .ok x w) (hy : (loadVar tz b).run P w = .ok y w) :
    (results fn tmps).run P w = .ok (.tuple #[x, y, v]) w := by
  unfold results
  rw [h]
  rw [Array.getD_eq_getD_getElem?] at ha hb hs
  simp [Sem.run_bind, ha, hb, hs, asAddr, hx, hy, Result.andThen]
theorem load_rpool {W : World} {b : Nat} {m l r : Int} {v : Value} (h : W.heap[b]? = some (.cells #[.int .i64 m, .int .i64 l, .int .i64 r, v] 28)) : (loadVar 28 ⟨b, 0, none⟩).run Try.prog W = .ok (.agg #[.int .i64 m, .int .i64 l, .int .i64 r, v]) W := by
  have c0 := tblk_cell (o := 0) h rfl
  have c1 := tblk_cell (o := 1) h rfl
  have c2 := tblk_cell (o := 2) h rfl
  have c3 := tblk_cell (o := 3) h rfl
  simp [loadVar, go_sem, c0, c1, c2, c3]
theorem load_rlease {W : World} {b : Nat} {m l : Int} {f : Bool} (h : W.heap[b]? = some (.cells #[.int .i64 m, .int .i64 l, .bool f] 36)) : (loadVar 36 ⟨b, 0, none⟩).run Try.prog W = .ok (.agg #[.int .i64 m, .int .i64 l, .bool f]) W := by
  have c0 := tblk_cell (o := 0) h rfl
  have c1 := tblk_cell (o := 1) h rfl
  have c2 := tblk_cell (o := 2) h rfl
  simp [loadVar, go_sem, c0, c1, c2]
/-- Both answers' blocks, as they are in the end. -/
structure FS (w : World) (b : Nat) (m l r : Int) (v : Value) (h s : Int) (f : Bool) (V : World) : Prop where
  y : V.heap[b]? = some (.cells #[.int .i64 m, .int .i64 l, .int .i64 r, v] 28)
  z : V.heap[b + 1]? = some (.cells #[.int .i64 h, .int .i64 s, .bool f] 36)
  b : Below w.heap.size w V
theorem FS.alloc {w V : World} {b : Nat} {m l r h s : Int} {v : Value} {f : Bool} (k : FS w b m l r v h s f V) (o : Obj) : FS w b m l r v h s f (V.alloc o) :=
  ⟨(Below.heap_alloc V o _ (Array.getElem?_eq_some_iff.1 k.y).1).trans k.y, (Below.heap_alloc V o _ (Array.getElem?_eq_some_iff.1 k.z).1).trans k.z, k.b.alloc k.b.size o⟩
/-- The answer's stores, the lease's behind them. -/
theorem fin_seven {w W : World} {b : Nat} {m l r m0 l0 r0 h s h0 s0 : Int} {v v0 : Value} {f f0 : Bool} (hb : Below w.heap.size w W) (hy : W.heap[b]? = some (.cells #[.int .i64 m0, .int .i64 l0, .int .i64 r0, v0] 28)) (hz : W.heap[b + 1]? = some (.cells #[.int .i64 h0, .int .i64 s0, .bool f0] 36)) (hle : w.heap.size ≤ b) :
    FS w b m l r v h s f (((((((W.setCell ⟨b, 0, none⟩ (.int .i64 m)).setCell ⟨b, 1, none⟩ (.int .i64 l)).setCell ⟨b, 2, none⟩ (.int .i64 r)).setCell ⟨b, 3, none⟩ v).setCell ⟨b + 1, 0, none⟩ (.int .i64 h)).setCell ⟨b + 1, 1, none⟩ (.int .i64 s)).setCell ⟨b + 1, 2, none⟩ (.bool f)) :=
  ⟨(off_three (by omega)).trans (put_four hy), put_three ((off_four (by omega)).trans hz), below_three (below_four hb hle) (by omega)⟩
/-- The lease's ahead of them. -/
theorem fin_seven2 {w W : World} {b : Nat} {m l r m0 l0 r0 h s h0 s0 : Int} {v v0 : Value} {f f0 : Bool} (hb : Below w.heap.size w W) (hy : W.heap[b]? = some (.cells #[.int .i64 m0, .int .i64 l0, .int .i64 r0, v0] 28)) (hz : W.heap[b + 1]? = some (.cells #[.int .i64 h0, .int .i64 s0, .bool f0] 36)) (hle : w.heap.size ≤ b) :
    FS w b m l r v h s f (((((((W.setCell ⟨b + 1, 0, none⟩ (.int .i64 h)).setCell ⟨b + 1, 1, none⟩ (.int .i64 s)).setCell ⟨b + 1, 2, none⟩ (.bool f)).setCell ⟨b, 0, none⟩ (.int .i64 m)).setCell ⟨b, 1, none⟩ (.int .i64 l)).setCell ⟨b, 2, none⟩ (.int .i64 r)).setCell ⟨b, 3, none⟩ v) :=
  ⟨put_four ((off_three (by omega)).trans hy), (off_four (by omega)).trans (put_three hz), below_four (below_three hb (by omega)) hle⟩
/-- The lease's stored already. -/
theorem fin_four {w W : World} {b : Nat} {m l r m0 l0 r0 h s : Int} {v v0 : Value} {f : Bool} (hb : Below w.heap.size w W) (hy : W.heap[b]? = some (.cells #[.int .i64 m0, .int .i64 l0, .int .i64 r0, v0] 28)) (hz : W.heap[b + 1]? = some (.cells #[.int .i64 h, .int .i64 s, .bool f] 36)) (hle : w.heap.size ≤ b) :
    FS w b m l r v h s f ((((W.setCell ⟨b, 0, none⟩ (.int .i64 m)).setCell ⟨b, 1, none⟩ (.int .i64 l)).setCell ⟨b, 2, none⟩ (.int .i64 r)).setCell ⟨b, 3, none⟩ v) :=
  ⟨put_four hy, (off_four (by omega)).trans hz, below_four hb hle⟩
theorem ow_four {W : World} {b C : Nat} {x y z u v : Value} {o : List Hn} (O : OwR 81 4 encH C W v o) (hC : b < C) : OwR 81 4 encH C ((((W.setCell ⟨b, 0, none⟩ x).setCell ⟨b, 1, none⟩ y).setCell ⟨b, 2, none⟩ z).setCell ⟨b, 3, none⟩ u) v o := owh_set (owh_set (owh_set (owh_set O hC) hC) hC) hC
theorem ow_three {W : World} {b C : Nat} {x y z v : Value} {o : List Hn} (O : OwR 81 4 encH C W v o) (hC : b < C) : OwR 81 4 encH C (((W.setCell ⟨b, 0, none⟩ x).setCell ⟨b, 1, none⟩ y).setCell ⟨b, 2, none⟩ z) v o := owh_set (owh_set (owh_set O hC) hC) hC
theorem armA_facts {w w3 w5 : World} {xb : Nat} {m l r : Int} {v u : Value} {x : Hn} {LL : List Hn} (T : TP w (w.heap.size + 1) m l r v w3) (X : XB w3 xb x) (Z : w3.heap[w.heap.size + 1 + 1]? = some (.cells #[.int .i64 0, .int .i64 0, .bool false] 36)) (B : Below w3.drew.heap.size w3.drew w5) (O : OwR 81 4 encH w3.drew.heap.size w5 u LL) :
    w5.cell? ⟨w.heap.size + 1, 0, none⟩ = some (.int .i64 0) ∧ w5.cell? ⟨w.heap.size + 1, 1, none⟩ = some (.int .i64 0) ∧ w5.cell? ⟨w.heap.size + 1, 2, none⟩ = some (.int .i64 0) ∧ w5.cell? ⟨w.heap.size + 1, 3, none⟩ = some (.slice none 0 0) ∧
    w5.frozen? ⟨w.heap.size + 1, 0, none⟩ = false ∧ w5.frozen? ⟨w.heap.size + 1, 1, none⟩ = false ∧ w5.frozen? ⟨w.heap.size + 1, 2, none⟩ = false ∧ w5.frozen? ⟨w.heap.size + 1, 3, none⟩ = false ∧
    w5.cell? ⟨w.heap.size + 1 + 1, 0, none⟩ = some (.int .i64 0) ∧ w5.cell? ⟨w.heap.size + 1 + 1, 1, none⟩ = some (.int .i64 0) ∧ w5.cell? ⟨w.heap.size + 1 + 1, 2, none⟩ = some (.bool false) ∧
    w5.frozen? ⟨w.heap.size + 1 + 1, 0, none⟩ = false ∧ w5.frozen? ⟨w.heap.size + 1 + 1, 1, none⟩ = false ∧ w5.frozen? ⟨w.heap.size + 1 + 1, 2, none⟩ = false ∧
    w5.cell? ⟨xb, 0, none⟩ = some (.int .i64 x.h) ∧ w5.cell? ⟨xb, 1, none⟩ = some (.int .i64 x.st) ∧ w5.cell? ⟨xb, 2, none⟩ = some (.int .i64 x.si) ∧ w5.cell? ⟨xb, 3, none⟩ = some (.string x.a) ∧
    w5.cell? ⟨w.heap.size, 0, none⟩ = some (.int .i64 m) ∧ w5.cell? ⟨w.heap.size, 1, none⟩ = some (.int .i64 l) ∧ w5.cell? ⟨w.heap.size, 2, none⟩ = some (.int .i64 r) ∧ w5.cell? ⟨w.heap.size, 3, none⟩ = some v ∧
    Hid (∀ h s : Int, ∀ f : Bool, ∀ V, V = ((((((w5.setCell ⟨w.heap.size + 1, 0, none⟩ (.int .i64 m)).setCell ⟨w.heap.size + 1, 1, none⟩ (.int .i64 l)).setCell ⟨w.heap.size + 1, 2, none⟩ (.int .i64 r)).setCell ⟨w.heap.size + 1, 3, none⟩ u).setCell ⟨w.heap.size + 1 + 1, 0, none⟩ (.int .i64 h)).setCell ⟨w.heap.size + 1 + 1, 1, none⟩ (.int .i64 s)).setCell ⟨w.heap.size + 1 + 1, 2, none⟩ (.bool f) → FS w (w.heap.size + 1) m l r u h s f V ∧ OwR 81 4 encH w.heap.size V u LL) := by
  have B' : Below w3.heap.size w3 w5 := ⟨B.os, B.tape, B.output, B.size, B.block⟩
  have O' : OwR 81 4 encH w3.heap.size w5 u LL := O
  have hl : w.heap.size + 1 + 1 < w3.heap.size := (Array.getElem?_eq_some_iff.1 Z).1
  have T5 := T.keep (B'.mono (by omega))
  have Z5 := (B'.block _ hl).trans Z
  have X5 := X.keep B' (Array.getElem?_eq_some_iff.1 X).1
  have zz : ∀ o, w5.frozen? ⟨w.heap.size + 1 + 1, o, none⟩ = false := fun o => by simp [World.frozen?, Z5]
  refine ⟨T5.y.c0, T5.y.c1, T5.y.c2, T5.y.c3, T5.y.z 0, T5.y.z 1, T5.y.z 2, T5.y.z 3, tblk_cell Z5 rfl, tblk_cell Z5 rfl, tblk_cell Z5 rfl, zz 0, zz 1, zz 2, X5.cells.1, X5.cells.2.1, X5.cells.2.2.1, X5.cells.2.2.2, T5.x.c0, T5.x.c1, T5.x.c2, T5.x.c3, ?_⟩
  intro h s f V e
  subst e
  exact ⟨fin_seven T5.b T5.y Z5 (by omega), (ow_three (ow_four O' (by omega)) hl).mono (by have := T.b.size; omega)⟩
/-- The parameter's block, both answers' and the lease's. -/
structure TL (w : World) (m l r : Int) (v : Value) (xb : Nat) (h s : Int) (V : World) : Prop where
  t : TP w (w.heap.size + 1) m l r v V
  z : V.heap[w.heap.size + 1 + 1]? = some (.cells #[.int .i64 0, .int .i64 0, .bool false] 36)
  x : V.heap[xb]? = some (.cells #[.int .i64 h, .int .i64 s, .bool true] 36)
  n : w.heap.size + 1 + 1 < xb
theorem TL.keep {w V V' : World} {m l r h s : Int} {v : Value} {xb : Nat} (k : TL w m l r v xb h s V) (B : Below V.heap.size V V') : TL w m l r v xb h s V' :=
  ⟨k.t.keep (B.mono (by have := (Array.getElem?_eq_some_iff.1 k.z).1; omega)), (B.block _ (Array.getElem?_eq_some_iff.1 k.z).1).trans k.z, (B.block _ (Array.getElem?_eq_some_iff.1 k.x).1).trans k.x, k.n⟩
theorem TL.start {w W : World} {m l r : Int} {v : Value} (T : TP w (w.heap.size + 1) m l r v W) (Z : W.heap[w.heap.size + 1 + 1]? = some (.cells #[.int .i64 0, .int .i64 0, .bool false] 36)) (h s : Int) : TL w m l r v W.heap.size h s (W.alloc (.cells #[.int .i64 h, .int .i64 s, .bool true] 36)) :=
  ⟨T.keep ((Below.refl _ _).alloc (by have := (Array.getElem?_eq_some_iff.1 Z).1; omega) _), (Below.heap_alloc _ _ _ (Array.getElem?_eq_some_iff.1 Z).1).trans Z, tblk_new _ _, (Array.getElem?_eq_some_iff.1 Z).1⟩
theorem TP.setl {w : World} {rb : Nat} {m l r : Int} {v : Value} {wr : World} (T : TP w rb m l r v wr) (l' : Int) : TP w rb m l' r v (wr.setCell ⟨w.heap.size, 1, none⟩ (.int .i64 l')) := by
  have hr := T.r
  have hx := T.x
  refine ⟨?_, (Below.heap_setCell _ _ _ _ (show rb ≠ w.heap.size by omega)).trans T.y, T.b.setCell (p := ⟨w.heap.size, 1, none⟩) (Nat.le_refl _) _, hr⟩
  unfold PBk at hx ⊢
  have := ni_set (o := 1) (v := .int .i64 l') hx (by simp)
  simpa using this
theorem TP.set4 {w : World} {rb : Nat} {m l r m' l' r' : Int} {v v' : Value} {wr : World} (T : TP w rb m l r v wr) : TP w rb m' l' r' v' ((((wr.setCell ⟨w.heap.size, 0, none⟩ (.int .i64 m')).setCell ⟨w.heap.size, 1, none⟩ (.int .i64 l')).setCell ⟨w.heap.size, 2, none⟩ (.int .i64 r')).setCell ⟨w.heap.size, 3, none⟩ v') := by
  have hr := T.r
  have hx := T.x
  unfold PBk at hx
  exact ⟨put_four hx, (off_four (by omega)).trans T.y, below_four T.b (Nat.le_refl _), hr⟩
/-- What the walk reads and writes there. -/
theorem TL.facts {w w3 : World} {xb : Nat} {m l r h s : Int} {v : Value} (T : TL w m l r v xb h s w3) :
    (w3.cell? ⟨w.heap.size + 1, 0, none⟩ = some (.int .i64 0) ∧ w3.cell? ⟨w.heap.size + 1, 1, none⟩ = some (.int .i64 0) ∧ w3.cell? ⟨w.heap.size + 1, 2, none⟩ = some (.int .i64 0) ∧ w3.cell? ⟨w.heap.size + 1, 3, none⟩ = some (.slice none 0 0)) ∧
    (w3.frozen? ⟨w.heap.size + 1, 0, none⟩ = false ∧ w3.frozen? ⟨w.heap.size + 1, 1, none⟩ = false ∧ w3.frozen? ⟨w.heap.size + 1, 2, none⟩ = false ∧ w3.frozen? ⟨w.heap.size + 1, 3, none⟩ = false) ∧
    (w3.cell? ⟨w.heap.size + 1 + 1, 0, none⟩ = some (.int .i64 0) ∧ w3.cell? ⟨w.heap.size + 1 + 1, 1, none⟩ = some (.int .i64 0) ∧ w3.cell? ⟨w.heap.size + 1 + 1, 2, none⟩ = some (.bool false)) ∧
    (w3.frozen? ⟨w.heap.size + 1 + 1, 0, none⟩ = false ∧ w3.frozen? ⟨w.heap.size + 1 + 1, 1, none⟩ = false ∧ w3.frozen? ⟨w.heap.size + 1 + 1, 2, none⟩ = false) ∧
    (w3.cell? ⟨xb, 0, none⟩ = some (.int .i64 h) ∧ w3.cell? ⟨xb, 1, none⟩ = some (.int .i64 s) ∧ w3.cell? ⟨xb, 2, none⟩ = some (.bool true)) ∧
    (w3.frozen? ⟨xb, 0, none⟩ = false ∧ w3.frozen? ⟨xb, 1, none⟩ = false ∧ w3.frozen? ⟨xb, 2, none⟩ = false) ∧
    (w3.cell? ⟨w.heap.size, 0, none⟩ = some (.int .i64 m) ∧ w3.cell? ⟨w.heap.size, 1, none⟩ = some (.int .i64 l) ∧ w3.cell? ⟨w.heap.size, 2, none⟩ = some (.int .i64 r) ∧ w3.cell? ⟨w.heap.size, 3, none⟩ = some v) ∧
    (w3.frozen? ⟨w.heap.size, 0, none⟩ = false ∧ w3.frozen? ⟨w.heap.size, 1, none⟩ = false ∧ w3.frozen? ⟨w.heap.size, 2, none⟩ = false ∧ w3.frozen? ⟨w.heap.size, 3, none⟩ = false) := by
  have zz : ∀ o, w3.frozen? ⟨w.heap.size + 1 + 1, o, none⟩ = false := fun o => by simp [World.frozen?, T.z]
  have xx : ∀ o, w3.frozen? ⟨xb, o, none⟩ = false := fun o => by simp [World.frozen?, T.x]
  exact ⟨⟨T.t.y.c0, T.t.y.c1, T.t.y.c2, T.t.y.c3⟩, ⟨T.t.y.z 0, T.t.y.z 1, T.t.y.z 2, T.t.y.z 3⟩, ⟨tblk_cell T.z rfl, tblk_cell T.z rfl, tblk_cell T.z rfl⟩, ⟨zz 0, zz 1, zz 2⟩, ⟨tblk_cell T.x rfl, tblk_cell T.x rfl, tblk_cell T.x rfl⟩, ⟨xx 0, xx 1, xx 2⟩, ⟨T.t.x.c0, T.t.x.c1, T.t.x.c2, T.t.x.c3⟩, ⟨T.t.x.z 0, T.t.x.z 1, T.t.x.z 2, T.t.x.z 3⟩⟩
theorem TL.fin {w w3 w5 : World} {xb : Nat} {m l r h s : Int} {v u : Value} {LL : List Hn} (T : TL w m l r v xb h s w3) (B : Below w3.drew.heap.size w3.drew w5) (O : OwR 81 4 encH w3.drew.heap.size w5 u LL) :
    TL w m l r v xb h s w5 ∧ Hid (∀ l' h s : Int, ∀ f : Bool, ∀ V, V = ((((((w5.setCell ⟨w.heap.size + 1, 0, none⟩ (.int .i64 m)).setCell ⟨w.heap.size + 1, 1, none⟩ (.int .i64 l')).setCell ⟨w.heap.size + 1, 2, none⟩ (.int .i64 r)).setCell ⟨w.heap.size + 1, 3, none⟩ u).setCell ⟨w.heap.size + 1 + 1, 0, none⟩ (.int .i64 h)).setCell ⟨w.heap.size + 1 + 1, 1, none⟩ (.int .i64 s)).setCell ⟨w.heap.size + 1 + 1, 2, none⟩ (.bool f) → FS w (w.heap.size + 1) m l' r u h s f V ∧ OwR 81 4 encH w.heap.size V u LL) := by
  have B' : Below w3.heap.size w3 w5 := ⟨B.os, B.tape, B.output, B.size, B.block⟩
  have O' : OwR 81 4 encH w3.heap.size w5 u LL := O
  have hl : w.heap.size + 1 + 1 < w3.heap.size := (Array.getElem?_eq_some_iff.1 T.z).1
  have T5 := T.keep B'
  refine ⟨T5, ?_⟩
  intro l' h s f V e
  subst e
  exact ⟨fin_seven T5.t.b T5.t.y T5.z (by omega), (ow_three (ow_four O' (by omega)) hl).mono (by have := T.t.b.size; omega)⟩
theorem TL.setx {w V : World} {m l r h s : Int} {v : Value} {xb : Nat} (k : TL w m l r v xb h s V) (h' : Int) : TL w m l r v xb h' s (V.setCell ⟨xb, 0, none⟩ (.int .i64 h')) := by
  have hn := k.n
  have hs := k.t.b.size
  refine ⟨⟨(Below.heap_setCell _ _ _ _ (by show w.heap.size ≠ xb; omega)).trans k.t.x, (Below.heap_setCell _ _ _ _ (by show w.heap.size + 1 ≠ xb; omega)).trans k.t.y, k.t.b.setCell (p := ⟨xb, 0, none⟩) (by show w.heap.size ≤ xb; omega) _, k.t.r⟩, (Below.heap_setCell _ _ _ _ (by show w.heap.size + 1 + 1 ≠ xb; omega)).trans k.z, ?_, hn⟩
  have := ni_set (o := 0) (v := .int .i64 h') k.x (by simp)
  simpa using this
theorem TL.next {w w5 : World} {m l r h s : Int} {v : Value} {xb C : Nat} {LO : List Hn} {a5 : Option Addr} {c5 : Nat} (T : TL w m l r v xb h s w5) (O : OwR 81 4 encH C w5 (.slice a5 LO.length c5) LO) (hC : xb < C) (l1 h1 : Int) (o : Obj) :
    TL w m l1 r (.slice a5 LO.length c5) xb h1 s (((((((w5.setCell ⟨w.heap.size, 0, none⟩ (.int .i64 m)).setCell ⟨w.heap.size, 1, none⟩ (.int .i64 l)).setCell ⟨w.heap.size, 2, none⟩ (.int .i64 r)).setCell ⟨w.heap.size, 3, none⟩ (.slice a5 LO.length c5)).setCell ⟨w.heap.size, 1, none⟩ (.int .i64 l1)).setCell ⟨xb, 0, none⟩ (.int .i64 h1)).alloc o) ∧
    RdR 4 encH (((((((w5.setCell ⟨w.heap.size, 0, none⟩ (.int .i64 m)).setCell ⟨w.heap.size, 1, none⟩ (.int .i64 l)).setCell ⟨w.heap.size, 2, none⟩ (.int .i64 r)).setCell ⟨w.heap.size, 3, none⟩ (.slice a5 LO.length c5)).setCell ⟨w.heap.size, 1, none⟩ (.int .i64 l1)).setCell ⟨xb, 0, none⟩ (.int .i64 h1)).alloc o) a5 c5 LO := by
  have hn := T.n
  have T1 : TL w m l1 r (.slice a5 LO.length c5) xb h s (((((w5.setCell ⟨w.heap.size, 0, none⟩ (.int .i64 m)).setCell ⟨w.heap.size, 1, none⟩ (.int .i64 l)).setCell ⟨w.heap.size, 2, none⟩ (.int .i64 r)).setCell ⟨w.heap.size, 3, none⟩ (.slice a5 LO.length c5)).setCell ⟨w.heap.size, 1, none⟩ (.int .i64 l1)) :=
    ⟨(T.t.set4).setl l1, (Below.heap_setCell _ _ _ _ (by show w.heap.size + 1 + 1 ≠ w.heap.size; omega)).trans ((off_four (by omega)).trans T.z), (Below.heap_setCell _ _ _ _ (by show xb ≠ w.heap.size; omega)).trans ((off_four (by omega)).trans T.x), hn⟩
  refine ⟨(T1.setx h1).keep ((Below.refl _ _).alloc (Nat.le_refl _) o), ?_⟩
  obtain ⟨a3, c3, e3, R3, _⟩ := ((owh_set (owh_set (ow_four O (show w.heap.size < C by omega)) (show w.heap.size < C by omega)) hC).grow ((Below.refl _ _).alloc (Nat.le_refl _) o)).rd EH
  injection e3 with e31 e32 e33
  subst e31 e33
  exact R3
theorem TL.next0 {w W : World} {m l r : Int} {v : Value} (T : TP w (w.heap.size + 1) m l r v W) (Z : W.heap[w.heap.size + 1 + 1]? = some (.cells #[.int .i64 0, .int .i64 0, .bool false] 36)) (l1 h s : Int) : TL w m l1 r v W.heap.size h s ((W.setCell ⟨w.heap.size, 1, none⟩ (.int .i64 l1)).alloc (.cells #[.int .i64 h, .int .i64 s, .bool true] 36)) := by
  have := TL.start (T.setl l1) ((Below.heap_setCell _ _ _ _ (by show w.heap.size + 1 + 1 ≠ w.heap.size; omega)).trans Z) h s
  rwa [show (W.setCell ⟨w.heap.size, 1, none⟩ (.int .i64 l1)).heap.size = W.heap.size by simp [World.setCell]] at this
end Go.Proofs.Ytlaigjapnmgjeaa
