/- A row of bytes of one's own, nothing of which is frozen, though its block bears a mark behind its end: bytes made of a text, and what is appended to them. -/
import Derived.Test.YthbjdbookiejeabGreatDoorRow
import Derived.Lib.AppendStr
namespace Go.Proofs.YthbjdbookiejeabGreatDoor
open Go.ChangeShapes Go.WideShapes Go.ChangeAt Go.RowKit
set_option linter.unusedVariables false

def Soft (n : Nat) (fz : Nat × Nat) : Prop := ∀ i, i < n → ¬ (fz.1 ≤ i ∧ i < fz.2)
theorem storeCells_soft (P : Program) (g o : Nat) (t : TypeId) (fz : Nat × Nat) : ∀ (vs : List Value) (i : Nat) (cur : Array Value) (w : World), w.heap[g]? = some (.cells cur t fz) → Soft cur.size fz → o + i + vs.length ≤ cur.size → (∀ v ∈ vs, v.oneCell' = true) →
    (storeCells ⟨g, o, none⟩ vs i).run P w = .ok () (w.setRow g (cur.toList.take (o + i) ++ vs ++ cur.toList.drop (o + i + vs.length)).toArray)
  | [], i, cur, w, hg, _, _, _ => by
    simp only [storeCells, List.append_nil, List.length_nil, Nat.add_zero, List.take_append_drop, Array.toArray_toList]
    rw [setRow_self w g cur t fz hg]
    rfl
  | v :: rest, i, cur, w, hg, hfz, hl, h1 => by
    have hi : o + i < cur.size := by simp at hl; omega
    have hadd : (⟨g, o, none⟩ : Addr).add i = ⟨g, o + i, none⟩ := by unfold Addr.add; split <;> simp_all
    have hcell : w.cell? ⟨g, o + i, none⟩ = some cur[o + i] := by simp [World.cell?, hg, hi]
    have hfro : w.frozen? ⟨g, o + i, none⟩ = false := by
      have k := hfz (o + i) hi
      obtain ⟨lo, hi'⟩ := fz
      simp only [World.frozen?, hg, Bool.and_eq_false_iff, decide_eq_false_iff_not]
      simp only at k
      omega
    have hst : (store ((⟨g, o, none⟩ : Addr).add i) v).run P w = .ok () (w.setRow g (cur.setIfInBounds (o + i) v)) := by
      rw [hadd, run_store P w _ v _ (h1 v (by simp)), hcell]
      simp [hfro, setCell_eq_setRow w g (o + i) cur t fz v hg]
    have ih := storeCells_soft P g o t fz rest (i + 1) (cur.setIfInBounds (o + i) v) (w.setRow g (cur.setIfInBounds (o + i) v)) (setRow_heap w g cur _ t _ hg) (by rw [Array.size_setIfInBounds]; exact hfz) (by simp at hl ⊢; omega) (fun x hx => h1 x (by simp [hx]))
    simp only [storeCells, Sem.run_bind, hst, Result.andThen_ok, ih, setRow_setRow]
    congr 3
    have e := list_seg_step cur.toList (o + i) v rest (by simp at hl ⊢; omega)
    simpa [Array.toList_setIfInBounds, Nat.add_assoc] using e

/-- The bytes X, in a block from B on that the walk itself has made. -/
def OwnG (B : Nat) (w : World) (v : Value) (X : List UInt8) : Prop := ∃ g cap cur fz, v = .slice (some ⟨g, 0, none⟩) X.length cap ∧ B ≤ g ∧ w.heap[g]? = some (.cells cur 5 fz) ∧ Soft cur.size fz ∧ X.length ≤ cap ∧ cap ≤ maxLen ∧ cur.size = cap ∧ cur.toList.take X.length = rowB X
theorem OwnG.form {B : Nat} {w : World} {v : Value} {X : List UInt8} (h : OwnG B w v X) : ∃ g c, v = .slice (some ⟨g, 0, none⟩) X.length c ∧ B ≤ g ∧ g < w.heap.size := by
  obtain ⟨g, cap, cur, fz, hv, hB, hg, _⟩ := h
  exact ⟨g, cap, hv, hB, heap_lt hg⟩
theorem OwnG.mono {B C : Nat} {w : World} {v : Value} {X : List UInt8} (h : OwnG B w v X) (hC : C ≤ B) : OwnG C w v X := by
  obtain ⟨g, cap, cur, fz, hv, hB, r⟩ := h
  exact ⟨g, cap, cur, fz, hv, Nat.le_trans hC hB, r⟩
theorem OwnG.keep {B : Nat} {w w' : World} {v : Value} {X : List UInt8} (h : OwnG B w v X) (b : Below w.heap.size w w') : OwnG B w' v X := by
  obtain ⟨g, cap, cur, fz, hv, hB, hg, r⟩ := h
  exact ⟨g, cap, cur, fz, hv, hB, (b.block g (heap_lt hg)).trans hg, r⟩
theorem OwnG.cells {B g n c : Nat} {w : World} {X : List UInt8} (h : OwnG B w (.slice (some ⟨g, 0, none⟩) n c) X) (j : Nat) (hj : j < X.length) : w.cell? ⟨g, j, none⟩ = some (bv X[j]) := by
  obtain ⟨g', cap, cur, fz, hv, hB, hg, hz, hl, hm, hs, ht⟩ := h
  obtain ⟨e1, e2, e3⟩ := slice_inj hv
  have : g = g' := by simpa using e1
  subst this
  have k : (cur.toList.take X.length)[j]? = (rowB X)[j]? := by rw [ht]
  rw [List.getElem?_take, if_pos hj] at k
  unfold rowB at k
  rw [List.getElem?_map, List.getElem?_eq_getElem hj] at k
  unfold World.cell?
  rw [hg]
  simp only
  rw [← Array.getElem?_toList, k]
  rfl
theorem OwnG.src {B : Nat} {w : World} {v : Value} {X : List UInt8} (h : OwnG B w v X) : ∃ k, Src w k v X ∧ B ≤ k ∧ k < w.heap.size := by
  have h0 := h
  obtain ⟨g, cap, cur, fz, hv, hB, hg, hz, hl, hm, hs, ht⟩ := h
  refine ⟨g, ⟨_, cap, hv, hl, hm, fun _ => ⟨0, rfl, fun j hj => ?_⟩⟩, hB, heap_lt hg⟩
  rw [Nat.zero_add]
  exact (hv ▸ h0).cells j hj
theorem convG (w : World) (s : ByteArray) (hs : s.size ≤ maxLen) : ∃ v w1, (convert 9 22 (.string s)).run Tryz.prog w = .ok v w1 ∧ OwnG w.heap.size w1 v s.data.toList ∧ Below w.heap.size w w1 := by
  refine ⟨_, _, run_bytes_of_string w 9 22 5 s Tryz.underlying9 Tryz.underlying22 Tryz.underlying5, ?_, ((Below.refl _ _).drew).alloc (Nat.le_refl _) _⟩
  have hsz : (bytesRow s (grownCap w s.size 0 5)).size = grownCap w s.size 0 5 := by
    unfold bytesRow
    rw [Array.size_append, Array.size_map, Array.size_replicate]
    have := grownCap_ge w s.size 0 5
    show s.size + _ = _
    omega
  refine ⟨w.heap.size, grownCap w s.size 0 5, _, _, rfl, Nat.le_refl _, new_at w.drew _, fun i hi k => ?_, grownCap_ge _ _ _ _, grownCap_le_maxLen _ _ _ _ hs, hsz, ?_⟩
  · exact absurd k.1 (by simp only; omega)
  · unfold bytesRow
    rw [Array.toList_append, List.take_append_of_le_length (by simp), List.take_of_length_le (by simp)]
    simp [rowB, bv]
theorem rowB_str (s : ByteArray) : Lib.strCells s = rowB s.data.toList := by
  unfold Lib.strCells rowB
  rfl
/-- A text's bytes appended. -/
theorem ownG_append_str {B : Nat} {w : World} {v : Value} {X : List UInt8} {s : ByteArray} (h : OwnG B w v X) (hmax : X.length + s.size ≤ 140737488355328) (hB : B ≤ w.heap.size) :
    ∃ v' w', (Builtin.append_ #[22, 9] 22 #[v, .string s]).run Tryz.prog w = .ok v' w' ∧ OwnG B w' v' (X ++ s.data.toList) ∧ Below B w w' := by
  obtain ⟨i, hi, hz0, hz1, hz2⟩ := info_parts infoB3
  have h0 := h
  obtain ⟨g, cap, cur, fz, rfl, hBg, hg, hz, hl, hm, hs, ht⟩ := h
  have hlen : (X ++ s.data.toList).length = X.length + s.size := by rw [List.length_append]; rfl
  by_cases hroom : X.length + s.size ≤ cap
  · have hf := Lib.run_firstCells_string (P := Tryz.prog) w 1 s
    have hst := storeCells_soft Tryz.prog g X.length 5 fz (Lib.strCells s) 0 cur w hg hz (by rw [Lib.strCells_length]; omega) (Lib.strCells_oneCell s)
    simp only [Nat.add_zero, Lib.strCells_length] at hst
    refine ⟨.slice (some ⟨g, 0, none⟩) (X.length + s.size) cap, w.setRow g (cur.toList.take X.length ++ Lib.strCells s ++ cur.toList.drop (X.length + s.size)).toArray, ?_, ⟨g, cap, _, fz, by rw [hlen], hBg, setRow_heap w g cur _ 5 _ hg, ?_, by omega, hm, ?_, ?_⟩, ?_⟩
    · simp [Builtin.append_, run_underlying Tryz.underlying22, run_underlying Tryz.underlying9, sizeOf, typeInfo, hi, hz1, Builtin.lenOf, hroom, hf, Addr.add_lit, hst]
    · have e : (cur.toList.take X.length ++ Lib.strCells s ++ cur.toList.drop (X.length + s.size)).toArray.size = cur.size := by
        simp only [List.size_toArray, List.length_append, List.length_take, List.length_drop, Array.length_toList, Lib.strCells_length]
        omega
      rw [e]; exact hz
    · simp only [List.size_toArray, List.length_append, List.length_take, List.length_drop, Array.length_toList, Lib.strCells_length]
      omega
    · have e1 : (X ++ s.data.toList).length = (rowB X ++ Lib.strCells s).length := by rw [hlen, List.length_append, rowB_length, Lib.strCells_length]
      rw [ht, e1, List.toList_toArray, List.take_left, rowB_app, rowB_str]
    · exact ⟨rfl, rfl, rfl, by simp, fun k hk => setRow_other w g k _ (fun e => by omega)⟩
  · have holds : ∀ j u, (rowB X)[j]? = some u → w.cell? ((⟨g, 0, none⟩ : Addr).add j) = some u := fun j u hu => by
      have hj : j < X.length := by have := (List.getElem?_eq_some_iff.1 hu).1; rw [rowB_length] at this; exact this
      rw [addr_add, Nat.zero_add, h0.cells j hj]
      unfold rowB at hu
      rw [List.getElem?_map, List.getElem?_eq_getElem hj] at hu
      exact hu
    have hr := Lib.run_append_grow_string (P := Tryz.prog) w 22 9 22 5 i (.int .u8 0) Tryz.underlying22 Tryz.underlying9 hi hz0 ⟨g, 0, none⟩ X.length cap (rowB X) (by rw [hz1, rowB_length]; omega) holds s (by omega) (by omega) (by rw [hz2]; exact growslice_fits (by omega) (by omega))
    have hge := grownCap_ge w (X.length + s.size) cap 5
    refine ⟨_, _, hr, ⟨w.heap.size, _, _, (0, 0), by rw [hlen], hB, new_at w.drew _, fun j _ k => by simp only at k; omega, by rw [hlen]; exact hge, grownCap_le_maxLen _ _ _ _ (by unfold maxLen; omega), ?_, ?_⟩, ?_⟩
    · have hz1 : (Value.int IntKind.u8 0).cells.size = 1 := rfl
      simp only [Array.size_append, List.size_toArray, size_zeroCells, hz1, rowB_length, Lib.strCells_length]
      omega
    · have e1 : (X ++ s.data.toList).length = (rowB X ++ Lib.strCells s).length := by rw [hlen, List.length_append, rowB_length, Lib.strCells_length]
      simp only [Array.toList_append]
      rw [e1, List.take_left, rowB_app, rowB_str]
    · exact ((Below.refl _ _).drew).alloc hB _
/-- Bytes appended. -/
theorem ownG_append {B : Nat} {w : World} {k : Nat} {v : Value} {X Y : List UInt8} {a : Option Addr} {n c : Nat} (h : OwnG B w v X) (hsrc : Src w k (.slice a n c) Y) (hnil : a = none → c = 0) (hmax : X.length + Y.length ≤ 140737488355328) (hB : B ≤ w.heap.size) :
    ∃ v' w', (Builtin.append_ #[22, 22] 22 #[v, .slice a n c]).run Tryz.prog w = .ok v' w' ∧ OwnG B w' v' (X ++ Y) ∧ Below B w w' := by
  obtain ⟨i, hi, hz0, hz1, hz2⟩ := info_parts infoB3
  have h0 := h
  obtain ⟨g, cap, cur, fz, rfl, hBg, hg, hz, hl, hm, hs, ht⟩ := h
  obtain ⟨a', c', e, q1, q2, q3⟩ := hsrc
  obtain ⟨e1, e2, e3⟩ := slice_inj e
  subst e1 e2 e3
  have hlen : (X ++ Y).length = X.length + Y.length := List.length_append
  cases a with
  | none =>
    have hc := hnil rfl
    have hy : Y = [] := by
      rcases Nat.eq_zero_or_pos Y.length with q | q
      · exact List.eq_nil_of_length_eq_zero q
      · obtain ⟨_, q, _⟩ := q3 q; cases q
    subst hy hc
    refine ⟨.slice (some ⟨g, 0, none⟩) X.length cap, w, ?_, by rw [List.append_nil]; exact h0, Below.refl _ _⟩
    simp [Builtin.append_, run_underlying Tryz.underlying22, sizeOf, typeInfo, hi, Builtin.lenOf, hl, Builtin.firstCells, storeCells]
  | some ad =>
    have hnews : ∀ j u, (rowB Y)[j]? = some u → w.cell? (ad.add j) = some u := fun j u hj => by
      unfold rowB at hj
      rw [List.getElem?_map] at hj
      obtain ⟨x, hx, rfl⟩ := Option.map_eq_some_iff.1 hj
      have hjl := (List.getElem?_eq_some_iff.1 hx).1
      obtain ⟨off, ha, hc⟩ := q3 (by omega)
      have : ad = ⟨k, off, none⟩ := by simpa using ha
      subst this
      rw [addr_add, hc j hjl, (List.getElem?_eq_some_iff.1 hx).2]
    by_cases hroom : X.length + Y.length ≤ cap
    · have hf := run_firstCells_some (P := Tryz.prog) w i.size Y.length ad Y.length c (rowB Y) (by rw [rowB_length, hz1]; omega) hnews
      have hst := storeCells_soft Tryz.prog g X.length 5 fz (rowB Y) 0 cur w hg hz (by rw [rowB_length]; omega) (bvs_one _)
      rw [hz1] at hf
      simp only [Nat.add_zero, rowB_length] at hst
      refine ⟨.slice (some ⟨g, 0, none⟩) (X.length + Y.length) cap, w.setRow g (cur.toList.take X.length ++ rowB Y ++ cur.toList.drop (X.length + Y.length)).toArray, ?_, ⟨g, cap, _, fz, by rw [hlen], hBg, setRow_heap w g cur _ 5 _ hg, ?_, by omega, hm, ?_, ?_⟩, ?_⟩
      · simp [Builtin.append_, run_underlying Tryz.underlying22, sizeOf, typeInfo, hi, hz1, Builtin.lenOf, hroom, hf, Addr.add_lit, hst]
      · have e : (cur.toList.take X.length ++ rowB Y ++ cur.toList.drop (X.length + Y.length)).toArray.size = cur.size := by
          simp only [List.size_toArray, List.length_append, List.length_take, List.length_drop, Array.length_toList, rowB_length]
          omega
        rw [e]; exact hz
      · simp only [List.size_toArray, List.length_append, List.length_take, List.length_drop, Array.length_toList, rowB_length]
        omega
      · have e1 : (X ++ Y).length = (rowB X ++ rowB Y).length := by rw [hlen, List.length_append, rowB_length, rowB_length]
        rw [ht, e1, List.toList_toArray, List.take_left, rowB_app]
      · exact ⟨rfl, rfl, rfl, by simp, fun k hk => setRow_other w g k _ (fun e => by omega)⟩
    · have holds : ∀ j u, (rowB X)[j]? = some u → w.cell? ((⟨g, 0, none⟩ : Addr).add j) = some u := fun j u hu => by
        have hj : j < X.length := by have := (List.getElem?_eq_some_iff.1 hu).1; rw [rowB_length] at this; exact this
        rw [addr_add, Nat.zero_add, h0.cells j hj]
        unfold rowB at hu
        rw [List.getElem?_map, List.getElem?_eq_getElem hj] at hu
        exact hu
      have hr := run_append_grow (P := Tryz.prog) w 22 22 5 i (.int .u8 0) Tryz.underlying22 hi hz0 ⟨g, 0, none⟩ X.length cap (rowB X) (by rw [hz1, rowB_length]; omega) holds ad Y.length c (rowB Y) (by rw [hz1, rowB_length]; omega) hnews (by omega) (by omega) (by rw [hz2]; exact growslice_fits (by omega) (by omega))
      have hge := grownCap_ge w (X.length + Y.length) cap 5
      refine ⟨_, _, hr, ⟨w.heap.size, _, _, (0, 0), by rw [hlen], hB, new_at w.drew _, fun j _ k => by simp only at k; omega, by rw [hlen]; exact hge, grownCap_le_maxLen _ _ _ _ (by unfold maxLen; omega), ?_, ?_⟩, ?_⟩
      · have hz1 : (Value.int IntKind.u8 0).cells.size = 1 := rfl
        simp only [Array.size_append, List.size_toArray, size_zeroCells, hz1, rowB_length]
        omega
      · have e1 : (X ++ Y).length = (rowB X ++ rowB Y).length := by rw [hlen, List.length_append, rowB_length, rowB_length]
        simp only [Array.toList_append]
        rw [e1, List.take_left, rowB_app]
      · exact ((Below.refl _ _).drew).alloc hB _
end Go.Proofs.YthbjdbookiejeabGreatDoor
