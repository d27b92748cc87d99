/- All: between two rounds, and a round's end. -/
import Derived.Test.YtdibldocfhpnkaaDoorEnJ
namespace Go.Proofs.YtdibldocfhpnkaaDoor
open Go.RowKit Go.Shelf
set_option linter.unusedVariables false

/-- Between two rounds. -/
def AllI (w : World) (pre : List (List UInt8)) (W : World) : Prop := ∃ v, W.heap[w.heap.size + 2]? = some (.cells #[v] 36) ∧ OwnE (w.heap.size + 4) W v (pre.map valL) ∧ goodB pre = true ∧ W.heap[w.heap.size]? = some (.cells #[.slice none 0 0] 36) ∧ W.heap[w.heap.size + 1]? = some (.cells #[.int .i64 0] 26) ∧ Below w.heap.size w W ∧ w.heap.size + 4 ≤ W.heap.size
/-- A round has left. -/
def AllX (w : World) (pre : List (List UInt8)) (W : World) : Prop := ∃ p0 x, pre = p0 ++ [x] ∧ goodB p0 = true ∧ goodB pre = false ∧ W.heap[w.heap.size]? = some (.cells #[.slice none 0 0] 36) ∧ W.heap[w.heap.size + 1]? = some (.cells #[.int .i64 (if okL x = true then 1 else 20)] 26) ∧ Below w.heap.size w W ∧ w.heap.size + 4 ≤ W.heap.size
theorem allI_put (w : World) : OffY (w.heap.size + 4) (AllI w) := by
  rintro pre W k o o' ⟨v, h1, h2, h3, h6, h7, h8, h9⟩ hk ho hN
  exact ⟨v, put_cellsY h1 rfl hk ho, h2.kept (KpC.put W k o o' hk ho), h3, put_cellsY h6 rfl hk ho, put_cellsY h7 rfl hk ho, below_putY h8 k o' (by omega), by rw [World.putObj_size]; exact h9⟩
theorem allX_put (w : World) : OffY (w.heap.size + 4) (AllX w) := by
  rintro pre W k o o' ⟨p0, x, h1, h2, h3, h6, h7, h8, h9⟩ hk ho hN
  exact ⟨p0, x, h1, h2, h3, put_cellsY h6 rfl hk ho, put_cellsY h7 rfl hk ho, below_putY h8 k o' (by omega), by rw [World.putObj_size]; exact h9⟩
theorem allI_alloc (w : World) (pre : List (List UInt8)) (W : World) (o : Obj) (h : AllI w pre W) : AllI w pre (W.alloc o) := by
  obtain ⟨v, h1, h2, h3, h6, h7, h8, h9⟩ := h
  exact ⟨v, heap_alY o h1, h2.kept (KpC.alloc _ W o), h3, heap_alY o h6, heap_alY o h7, h8.alloc h8.size o, by rw [World.size_alloc]; omega⟩
theorem allI_set (w : World) (pre : List (List UInt8)) (W : World) (u : Value) (h : AllI w pre W) : AllI w pre (W.setCell ⟨w.heap.size + 3, 0, none⟩ u) := by
  obtain ⟨v, h1, h2, h3, h6, h7, h8, h9⟩ := h
  have hs : (W.setCell ⟨w.heap.size + 3, 0, none⟩ u).heap.size = W.heap.size := by simp
  exact ⟨v, setCell_offY _ _ _ _ h1 (by omega), h2.kept (KpC.set W _ u (by simp)), h3, setCell_offY _ _ _ _ h6 (by omega), setCell_offY _ _ _ _ h7 (by omega), h8.setCell (p := ⟨w.heap.size + 3, 0, none⟩) (by simp) u, by rw [hs]; exact h9⟩
theorem allI_drew (w : World) (pre : List (List UInt8)) (W : World) (h : AllI w pre W) : AllI w pre W.drew := by
  obtain ⟨v, h1, h2, h3, h6, h7, h8, h9⟩ := h
  exact ⟨v, h1, h2.kept (KpC.drew _ W), h3, h6, h7, h8.drew, h9⟩
theorem below_drewN {B : Nat} {w W : World} (h : Below B w W) (n : Nat) : Below B w (W.drewN n) := h.trans ⟨rfl, rfl, rfl, Nat.le_refl _, fun _ _ => rfl⟩
theorem all_step (nq : Nat) {w W W2 : World} {pre : List (List UInt8)} {x : List UInt8} {v : Value} (hI : AllI w pre W) (hv0 : W.heap[w.heap.size + 2]? = some (.cells #[v] 36)) (hf : goodB (pre ++ [x]) = true) (hl : pre.length ≤ 1048576) (B2 : Below W.heap.size W W2) :
    W2.cell? ⟨w.heap.size + 1 + 1, 0, none⟩ = some v ∧ w.heap.size + 1 + 1 < W2.heap.size ∧
    ∃ g' c' W5, (Builtin.append_ #[36, 36] 36 #[v, .slice (some ⟨W2.heap.size + 1, 0, none⟩) 1 1]).run Tryd.prog (((W2.alloc (.cells (entV (valL x)) 23)).drewN nq).alloc (.cells (entV (valL x)) 23)) = .ok (.slice (some ⟨g', 0, none⟩) (pre.length + 1) c') W5 ∧
      W5.cell? ⟨w.heap.size + 1 + 1, 0, none⟩ = some v ∧ W5.frozen? ⟨w.heap.size + 1 + 1, 0, none⟩ = false ∧
      Hid (∀ a, linPostY (w.heap.size + 3) (AllI w) (AllX w) (pre ++ [x]) W .normal a (W5.setCell ⟨w.heap.size + 1 + 1, 0, none⟩ (.slice (some ⟨g', 0, none⟩) (pre.length + 1) c'))) := by
  obtain ⟨v', h1, h2, h3, h6, h7, h8, h9⟩ := hI
  obtain rfl : v' = v := by
    rw [h1] at hv0
    have := Option.some.inj hv0
    injection this with e1
    simpa using e1
  have s4 : (((W2.alloc (.cells (entV (valL x)) 23)).drewN nq).alloc (.cells (entV (valL x)) 23)).heap.size = W2.heap.size + 2 := by simp
  have s3 : ((W2.alloc (.cells (entV (valL x)) 23)).drewN nq).heap.size = W2.heap.size + 1 := by show (W2.alloc _).heap.size = _; simp
  have B4 : Below W2.heap.size W2 (((W2.alloc (.cells (entV (valL x)) 23)).drewN nq).alloc (.cells (entV (valL x)) 23)) := (below_drewN ((Below.refl _ _).alloc (Nat.le_refl _) _) nq).alloc (by rw [s3]; omega) _
  have D4 : Below W.heap.size W (((W2.alloc (.cells (entV (valL x)) 23)).drewN nq).alloc (.cells (entV (valL x)) 23)) := B2.trans (B4.mono B2.size)
  have hsz := B2.size
  have O4 := h2.kept (KpC.below D4)
  have n4 := World.alloc_heap_new ((W2.alloc (.cells (entV (valL x)) 23)).drewN nq) (.cells (entV (valL x)) 23)
  rw [s3] at n4
  have own : ∀ k, v'.ownBlock = some k → w.heap.size + 4 ≤ k ∧ k < W.heap.size := fun k e => h2.lt k e
  obtain ⟨g', c', W5, r5, O5, G5, N5⟩ := ownE_append O4 (valL x) ⟨W2.heap.size + 1, 0, none⟩ (fun i u hu => by rw [addr_add, Nat.zero_add]; exact ring_cell n4 hu) (by rw [List.length_map]; exact hl) (by omega)
  rw [List.length_map] at r5 O5
  have key : ∀ k, k < w.heap.size + 4 → W5.heap[k]? = W.heap[k]? := fun k hk => (G5.block k (by omega) (fun e => by have := (own k e.symm).1; omega)).trans (D4.block k (by omega))
  have k1 : W5.heap[w.heap.size + 2]? = some (.cells #[v'] 36) := (key _ (by omega)).trans h1
  have hc2 : W2.heap[w.heap.size + 2]? = some (.cells #[v'] 36) := (B2.block _ (by omega)).trans h1
  refine ⟨ring_cell hc2 rfl, by omega, g', c', W5, r5, ring_cell k1 rfl, ring_z k1, ?_⟩
  have hs6 : (W5.setCell ⟨w.heap.size + 2, 0, none⟩ (.slice (some ⟨g', 0, none⟩) (pre.length + 1) c')).heap.size = W5.heap.size := by simp
  have hg5 := G5.size
  have KO : KeepsOthers W W5 := by
    refine (KeepsOthers.trans ⟨D4.size, fun k o h _ => (D4.block k (Array.getElem?_eq_some_iff.1 h).1).trans h⟩ (KeepsOthers.of_grownBy G5 fun j o e ho => ?_))
    rcases O4.2 with ⟨hv, _⟩ | ⟨g, cap, cur, hv, _, hh, _⟩
    · rw [hv] at e; cases e
    · rw [hv] at e
      have : g = j := by simpa [Value.ownBlock] using e
      subst this
      rw [hh] at ho; cases ho; rfl
  have O5' : OwnE (w.heap.size + 4) W5 (.slice (some ⟨g', 0, none⟩) (pre.length + 1) c') ((pre ++ [x]).map valL) := by rw [List.map_append]; exact O5
  refine fun _ => ⟨KO.trans (KeepsOthers.setCell _ _ _), (setOffY _ _ _ _ (by omega)).trans (key _ (by omega)), _, ?_, O5'.kept (KpC.set W5 _ _ (by simp)), hf, setCell_offY _ _ _ _ ((key _ (by omega)).trans h6) (by omega), setCell_offY _ _ _ _ ((key _ (by omega)).trans h7) (by omega), ?_, by rw [hs6]; omega⟩
  · rw [ring_set k1]; rfl
  · exact ((h8.trans (D4.mono h8.size)).trans ((Below.refl _ _).grown G5 (by omega) (fun k e => by have := (own k e).1; omega))).setCell (p := ⟨w.heap.size + 2, 0, none⟩) (by simp) _
theorem all_stop {w W W2 : World} {pre : List (List UInt8)} {x : List UInt8} (hI : AllI w pre W) (hf : goodB (pre ++ [x]) = false) (code : Int) (hcd : code = if okL x = true then 1 else 20) (B2 : Below W.heap.size W W2) :
    (∀ o, (W2.alloc o).cell? ⟨w.heap.size, 0, none⟩ = some (.slice none 0 0)) ∧ W2.cell? ⟨w.heap.size, 0, none⟩ = some (.slice none 0 0) ∧ W2.frozen? ⟨w.heap.size, 0, none⟩ = false ∧ W2.cell? ⟨w.heap.size + 1, 0, none⟩ = some (.int .i64 0) ∧ W2.frozen? ⟨w.heap.size + 1, 0, none⟩ = false ∧ w.heap.size < W2.heap.size ∧ w.heap.size + 1 < W2.heap.size ∧
      Hid (∀ a V, Below W2.heap.size W2 V → linPostY (w.heap.size + 3) (AllI w) (AllX w) (pre ++ [x]) W .ret a ((V.setCell ⟨w.heap.size, 0, none⟩ (.slice none 0 0)).setCell ⟨w.heap.size + 1, 0, none⟩ (.int .i64 code))) := by
  obtain ⟨v, h1, h2, h3, h6, h7, h8, h9⟩ := hI
  have hsz := B2.size
  have g6 : W2.heap[w.heap.size]? = some (.cells #[.slice none 0 0] 36) := (B2.block _ (by omega)).trans h6
  have g7 : W2.heap[w.heap.size + 1]? = some (.cells #[.int .i64 0] 26) := (B2.block _ (by omega)).trans h7
  refine ⟨fun o => ring_cell (heap_alY o g6) rfl, ring_cell g6 rfl, ring_z g6, ring_cell g7 rfl, ring_z g7, by omega, by omega, fun a V BV => ?_⟩
  have v6 := (BV.block _ (heap_lt g6)).trans g6
  have v7 := (BV.block _ (heap_lt g7)).trans g7
  have e6 : (V.setCell ⟨w.heap.size, 0, none⟩ (.slice none 0 0)).heap[w.heap.size]? = some (.cells #[.slice none 0 0] 36) := by rw [ring_set v6]; rfl
  have bs := BV.size
  have D : Below W.heap.size W V := B2.trans (BV.mono hsz)
  refine ⟨(KeepsOthers.trans ⟨D.size, fun k o h _ => (D.block k (Array.getElem?_eq_some_iff.1 h).1).trans h⟩ (KeepsOthers.setCell _ _ _)).trans (KeepsOthers.setCell _ _ _), pre, x, rfl, h3, hf, setCell_offY _ _ _ _ e6 (by omega), ?_, ((h8.trans (D.mono h8.size)).setCell (p := ⟨w.heap.size, 0, none⟩) (by simp) _).setCell (p := ⟨w.heap.size + 1, 0, none⟩) (by simp) _, by simp; omega⟩
  rw [ring_set (setCell_offY _ _ _ _ v7 (by omega)), hcd]; rfl
theorem ret_alloc {w W V : World} {bc : Nat} {xs : List (List UInt8)} {a : Act} (o : Obj) (h : linPostY bc (AllI w) (AllX w) xs W .ret a V) : linPostY bc (AllI w) (AllX w) xs W .ret a (V.alloc o) := by
  obtain ⟨hk, p0, x, h1, h2, h3, h6, h7, h8, h9⟩ := h
  refine ⟨hk.trans ⟨by simp, fun k o' h _ => (Below.heap_alloc V o k (Array.getElem?_eq_some_iff.1 h).1).trans h⟩, p0, x, h1, h2, h3, heap_alY o h6, heap_alY o h7, h8.alloc h8.size o, by rw [World.size_alloc]; omega⟩
theorem ret_drew {w W V : World} {bc : Nat} {xs : List (List UInt8)} {a : Act} (h : linPostY bc (AllI w) (AllX w) xs W .ret a V) : linPostY bc (AllI w) (AllX w) xs W .ret a V.drew := by
  obtain ⟨hk, p0, x, h1, h2, h3, h6, h7, h8, h9⟩ := h
  exact ⟨hk.trans ⟨Nat.le_refl _, fun k o' h _ => h⟩, p0, x, h1, h2, h3, h6, h7, h8.drew, h9⟩
theorem ret_drewN {w W V : World} {bc : Nat} {xs : List (List UInt8)} {a : Act} (n : Nat) (h : linPostY bc (AllI w) (AllX w) xs W .ret a V) : linPostY bc (AllI w) (AllX w) xs W .ret a (V.drewN n) := by
  obtain ⟨hk, p0, x, h1, h2, h3, h6, h7, h8, h9⟩ := h
  exact ⟨hk.trans ⟨Nat.le_refl _, fun k o' h _ => h⟩, p0, x, h1, h2, h3, h6, h7, below_drewN h8 n, h9⟩
end Go.Proofs.YtdibldocfhpnkaaDoor
