/- Texts that the proof leans on, one behind the other: TdG -/
import Derived.Test.YtjdplideehlblaaDoorTl
import Derived.Test.YtjdplideehlblaaDoorTe
/- TableHosts: copies that are written to; texts appended in a region that draws its order. -/
namespace Go.Proofs.YtjdplideehlblaaDoor
open Go.ChangeShapes Go.WideShapes Go.ChangeAt Go.RowKit
set_option linter.unusedVariables false

theorem ring_cellq {w : World} {b i : Nat} {c : Array Value} {t : TypeId} (h : w.heap[b]? = some (.cells c t)) : w.cell? ⟨b, i, none⟩ = c[i]? := by
  cases e : c[i]? with
  | some v => exact ring_cell h e
  | none => simp [World.cell?, h, e]
theorem OwnC.cur {N : Nat} {w : World} {v : Value} {xs : List SlotX} (h : OwnC N w v xs) (h0 : 0 < xs.length) : ∃ g c cur, v = .slice (some ⟨g, 0, none⟩) xs.length c ∧ N ≤ g ∧ w.heap[g]? = some (.cells cur 32) ∧ xs.length ≤ c ∧ c ≤ maxLen ∧ ∀ (j : Nat) (hj : j < xs.length) (i : Nat), i < 8 → cur[j * 8 + i]? = (slotV xs[j].s xs[j].a xs[j].c)[i]? := by
  have hR := h.row
  obtain ⟨h1, ⟨h2, h3⟩ | ⟨g, c, cur, hv, hB, hg, hl, hm, hs, ht⟩⟩ := h.row
  · omega
  · refine ⟨g, c, cur, hv, hB, hg, hl, hm, fun j hj i hi => ?_⟩
    have k := (hv ▸ hR : w.ownsRow N 32 8 (.slice (some ⟨g, 0, none⟩) xs.length c) xs.length (rowS xs))
    have q := (k.cellAt (j * 8 + i) (by omega)).trans (rowS_at xs j hj i hi)
    rw [← q]
    exact (ring_cellq hg).symm
def withHs (s : SlotP) (hs : List ByteArray) : SlotP := { s with h := hs }
theorem slotV_some (s : SlotP) (a : Option Addr) (c i : Nat) (h : i < 8) : ∃ v, (slotV s a c)[i]? = some v := by
  have : i < (slotV s a c).size := h
  exact ⟨_, Array.getElem?_eq_getElem this⟩
theorem sls_host {V : World} {g c : Nat} {cur : Array Value} {Y : List SlotX} {i : Nat} {ha : Option Addr} {hc : Nat} {hs : List ByteArray} (hV : V.heap[g]? = some (.cells (cur.setIfInBounds (i * 8 + 1) (.slice ha hs.length hc)) 32)) (hcur : ∀ (j : Nat) (hj : j < Y.length) (q : Nat), q < 8 → cur[j * 8 + q]? = (slotV Y[j].s Y[j].a Y[j].c)[q]?) (hi : i < Y.length)
    (hT : Txs V.heap.size V (.slice ha hs.length hc) hs) (hH : ∀ y ∈ Y, Txs V.heap.size V (.slice y.a y.s.h.length y.c) y.s.h) (hl : Y.length ≤ c) (hm : c ≤ maxLen) : Sls V.heap.size V (.slice (some ⟨g, 0, none⟩) Y.length c) ((Y.map (·.s)).set i (withHs Y[i].s hs)) := by
  have el : ((Y.map (·.s)).set i (withHs Y[i].s hs)).length = Y.length := by rw [List.length_set, List.length_map]
  have hsz : i * 8 + 1 < cur.size := by
    obtain ⟨v, hv⟩ := slotV_some Y[i].s Y[i].a Y[i].c 1 (by decide)
    exact (Array.getElem?_eq_some_iff.1 ((hcur i hi 1 (by decide)).trans hv)).1
  refine ⟨_, c, by rw [el], (fun e => by cases e), by rw [el]; exact hl, hm, fun _ => ⟨g, 0, rfl, heap_lt hV, fun j hj => ?_⟩⟩
  have hj' : j < Y.length := by omega
  rw [Nat.zero_add]
  have cell : ∀ q, q < 8 → ¬ j * 8 + q = i * 8 + 1 → V.cell? ⟨g, j * 8 + q, none⟩ = (slotV Y[j].s Y[j].a Y[j].c)[q]? := fun q hq hn => by
    obtain ⟨v, hv⟩ := slotV_some Y[j].s Y[j].a Y[j].c q hq
    rw [hv]
    refine ring_cell hV ?_
    rw [Array.getElem?_setIfInBounds, if_neg (fun e => hn e.symm)]
    exact (hcur j hj' q hq).trans hv
  by_cases e : i = j
  · subst e
    rw [List.getElem_set_self]
    have c1 : V.cell? ⟨g, i * 8 + 1, none⟩ = some (.slice ha hs.length hc) := ring_cell hV (by rw [Array.getElem?_setIfInBounds, if_pos rfl, if_pos hsz])
    exact ⟨ha, hc, cell 0 (by decide) (by omega), c1, cell 2 (by decide) (by omega), cell 3 (by decide) (by omega), cell 4 (by decide) (by omega), cell 5 (by decide) (by omega), cell 6 (by decide) (by omega), cell 7 (by decide) (by omega), hT⟩
  · rw [List.getElem_set_ne e, List.getElem_map]
    exact ⟨Y[j].a, Y[j].c, cell 0 (by decide) (by omega), cell 1 (by decide) (by omega), cell 2 (by decide) (by omega), cell 3 (by decide) (by omega), cell 4 (by decide) (by omega), cell 5 (by decide) (by omega), cell 6 (by decide) (by omega), cell 7 (by decide) (by omega), hH _ (List.getElem_mem hj')⟩
theorem sls_name {V : World} {g c : Nat} {cur : Array Value} {Y : List SlotX} {i : Nat} {x : ByteArray} (hV : V.heap[g]? = some (.cells (cur.setIfInBounds (i * 8) (.string x)) 32)) (hcur : ∀ (j : Nat) (hj : j < Y.length) (q : Nat), q < 8 → cur[j * 8 + q]? = (slotV Y[j].s Y[j].a Y[j].c)[q]?) (hi : i < Y.length)
    (hH : ∀ y ∈ Y, Txs V.heap.size V (.slice y.a y.s.h.length y.c) y.s.h) (hl : Y.length ≤ c) (hm : c ≤ maxLen) : Sls V.heap.size V (.slice (some ⟨g, 0, none⟩) Y.length c) ((Y.map (·.s)).set i (withN Y[i].s x)) := by
  have el : ((Y.map (·.s)).set i (withN Y[i].s x)).length = Y.length := by rw [List.length_set, List.length_map]
  have hsz : i * 8 < cur.size := by
    obtain ⟨v, hv⟩ := slotV_some Y[i].s Y[i].a Y[i].c 0 (by decide)
    exact (Array.getElem?_eq_some_iff.1 ((hcur i hi 0 (by decide)).trans hv)).1
  refine ⟨_, c, by rw [el], (fun e => by cases e), by rw [el]; exact hl, hm, fun _ => ⟨g, 0, rfl, heap_lt hV, fun j hj => ?_⟩⟩
  have hj' : j < Y.length := by omega
  rw [Nat.zero_add]
  have cell : ∀ q, q < 8 → ¬ j * 8 + q = i * 8 → V.cell? ⟨g, j * 8 + q, none⟩ = (slotV Y[j].s Y[j].a Y[j].c)[q]? := fun q hq hn => by
    obtain ⟨v, hv⟩ := slotV_some Y[j].s Y[j].a Y[j].c q hq
    rw [hv]
    refine ring_cell hV ?_
    rw [Array.getElem?_setIfInBounds, if_neg (fun e => hn e.symm)]
    exact (hcur j hj' q hq).trans hv
  by_cases e : i = j
  · subst e
    rw [List.getElem_set_self]
    have c0 : V.cell? ⟨g, i * 8, none⟩ = some (.string x) := ring_cell hV (by rw [Array.getElem?_setIfInBounds, if_pos rfl, if_pos hsz])
    exact ⟨Y[i].a, Y[i].c, c0, cell 1 (by decide) (by omega), cell 2 (by decide) (by omega), cell 3 (by decide) (by omega), cell 4 (by decide) (by omega), cell 5 (by decide) (by omega), cell 6 (by decide) (by omega), cell 7 (by decide) (by omega), hH _ (List.getElem_mem hj')⟩
  · rw [List.getElem_set_ne e, List.getElem_map]
    exact ⟨Y[j].a, Y[j].c, cell 0 (by decide) (by omega), cell 1 (by decide) (by omega), cell 2 (by decide) (by omega), cell 3 (by decide) (by omega), cell 4 (by decide) (by omega), cell 5 (by decide) (by omega), cell 6 (by decide) (by omega), cell 7 (by decide) (by omega), hH _ (List.getElem_mem hj')⟩
theorem step_ownT {ops : Array Oper} {o : Oper} {a : Act} {K : Act → World → Prop} {Q : Exit → Act → World → Prop} {E : Prop} {w : World} (hgd : o.guard = none) (s x : Operand)
    (ho : o.op = .call { callee := .builtin .append, args := #[s, x], argTypes := #[30, 30] }) (hty : o.type = 30)
    (B : Nat) (v : Value) (X : List ByteArray) (hs : a.eval s = v) (hown : OwnT B w v X) (C : Nat) (ad : Addr) (n c : Nat) (Y : List ByteArray) (hx : a.eval x = .slice (some ad) n c) (hsrc : Txs C w (.slice (some ad) n c) Y) (hp : 0 < Y.length) (hmax : X.length + Y.length ≤ 4294967296) (hB : B ≤ w.heap.size)
    (h : ∀ g' c' w', OwnT B w' (.slice (some ⟨g', 0, none⟩) (X ++ Y).length c') (X ++ Y) → Below B w w' → (∀ k, k < w.heap.size → ¬ v.ownBlock = some k → w'.heap[k]? = w.heap[k]?) → K (a.put o.dst (.slice (some ⟨g', 0, none⟩) (X ++ Y).length c')) w') :
    if Region.wanted o (yielded ops a.tmps) = true then Oper.wp Tryd.prog o a w K Q else E := by
  have hw : Region.wanted o (yielded ops a.tmps) = true := by simp [Region.wanted, hgd]
  rw [if_pos hw]
  obtain ⟨g', c', w', hr, O, Kl, G⟩ := ownT_app3 hown hsrc hp hmax hB
  unfold Oper.wp execOp
  simp only [ho, hty, resolve, invoke, builtin, Sem.run_bind, Sem.run_pure, Result.andThen_ok, List.map_toArray, List.map_cons, List.map_nil, hs, hx, hr]
  exact h g' c' w' O (Kl.below hB (fun k hk e => by have := (hown.lt k e).1; omega)) (fun k hk hn => Kl.block k hk hn)
theorem step_ownT0 {ops : Array Oper} {o : Oper} {a : Act} {K : Act → World → Prop} {Q : Exit → Act → World → Prop} {E : Prop} {w : World} (hgd : o.guard = none) (s x : Operand)
    (ho : o.op = .call { callee := .builtin .append, args := #[s, x], argTypes := #[30, 30] }) (hty : o.type = 30)
    (B g0 : Nat) (hs : a.eval s = .slice (some ⟨g0, 0, none⟩) 0 0) (hg0 : B ≤ g0) (hblk : w.heap[g0]? = some (.cells #[] 9)) (C : Nat) (ad : Addr) (n c : Nat) (Y : List ByteArray) (hx : a.eval x = .slice (some ad) n c) (hsrc : Txs C w (.slice (some ad) n c) Y) (hp : 0 < Y.length) (hmax : Y.length ≤ 1048576) (hB : B ≤ w.heap.size)
    (h : ∀ (g' c' : Nat) (w' : World), OwnT B w' (.slice (some ⟨g', 0, none⟩) Y.length c') Y → Below B w w' → (∀ (k : Nat) (y : ByteArray), w.heap[k]? = some (.cells #[.string y] 9) → w'.heap[k]? = some (.cells #[.string y] 9)) → K (a.put o.dst (.slice (some ⟨g', 0, none⟩) Y.length c')) w') :
    if Region.wanted o (yielded ops a.tmps) = true then Oper.wp Tryd.prog o a w K Q else E := by
  have O0 : OwnT B w (.slice (some ⟨g0, 0, none⟩) 0 0) [] := ⟨rfl, .inr ⟨g0, 0, #[], rfl, hg0, hblk, Nat.le_refl _, by decide, rfl, rfl⟩⟩
  refine step_ownT hgd s x ho hty B _ [] hs O0 C ad n c Y hx hsrc hp (by show 0 + _ ≤ _; omega) hB ?_
  intro g' c' w' O1 B1 K1
  rw [List.nil_append] at O1
  rw [List.nil_append]
  refine h g' c' w' O1 B1 (fun k y hk => (K1 k (heap_lt hk) (fun e => ?_)).trans hk)
  have e' : g0 = k := by simpa [Value.ownBlock] using e
  subst e'
  rw [hblk] at hk
  simp at hk
theorem ownT_blk0 {W : World} {B g : Nat} (hB : B ≤ g) (h : W.heap[g]? = some (.cells #[] 9)) : OwnT B W (.slice (some ⟨g, 0, none⟩) 0 0) [] :=
  ⟨rfl, .inr ⟨g, 0, #[], rfl, hB, h, Nat.le_refl _, by decide, rfl, rfl⟩⟩
theorem tblk2 (w : World) (o o' : Obj) : ((w.alloc o).alloc o').heap[w.heap.size + 1]? = some o' := by
  have k := new_at (w.alloc o) o'
  rw [show (w.alloc o).heap.size = w.heap.size + 1 from by simp] at k
  exact k
end Go.Proofs.YtjdplideehlblaaDoor
