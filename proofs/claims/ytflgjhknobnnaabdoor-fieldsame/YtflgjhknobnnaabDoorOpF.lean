/- A field that came in; how large the texts are that came in. -/
import Derived.Test.YtflgjhknobnnaabDoorFsC
import Derived.Lib.SmallJoins
import Derived.SizedLaws
import Derived.Deep.Strs
namespace Go.Proofs.YtflgjhknobnnaabDoor
open Go.ChangeShapes Go.WideShapes Go.ChangeAt Go.RowKit
set_option linter.unusedVariables false

theorem open_field {H : Type} {enc : TypeId × Value → H} {w : World} {r : Reach} {b0 base : Nat} {held : Bool} {v : Value} {d : DataW H} {p : List MemPlace}
    (hv : Value.okWide Tryd.prog w r b0 34 v) (h : DataW.Trod enc Tryd.prog w base (fun _ => true) held 34 v d p) :
    ∃ f : ByteArray × ByteArray, v = .agg #[.string f.1, .string f.2] ∧ d = datF f := by
  have ks : Tryd.prog.cellsOf 9 = 1 := by kernel_rfl
  obtain ⟨cs, rfl, hsz⟩ := okWide_struct Tryd.underlying34 hv
  obtain ⟨c0, c1, rfl⟩ : ∃ c0 c1, cs = #[c0, c1] := by
    have h2 := hsz.trans (show Tryd.prog.cellsOf 34 = 2 by kernel_rfl)
    obtain ⟨l⟩ := cs
    match l, h2 with
    | [x0, x1], _ => exact ⟨x0, x1, rfl⟩
  obtain ⟨fuel, hf⟩ := h
  obtain ⟨xs, n, _, hx, _, hxl, hg⟩ := DataW.trod_struct Tryd.underlying34 hf
  match xs, hxl, hx, hg with
  | [y0, y1], _, hx, hg =>
    have g0 := hg 0 _ rfl
    have g1 := hg 1 _ rfl
    simp [Value.cells, ks] at g0 g1
    obtain ⟨s0, e0, f0, _⟩ := DataW.trod_string Tryd.underlying9 g0
    obtain ⟨s1, e1, f1, _⟩ := DataW.trod_string Tryd.underlying9 g1
    simp only [Prod.mk.injEq] at hx
    have e0' : c0 = .string s0 := by simpa using e0
    have e1' : c1 = .string s1 := by simpa using e1
    subst e0' e1'
    exact ⟨(s0, s1), rfl, by rw [hx.1, f0, f1]; rfl⟩
theorem weights_field {H : Type} (f : ByteArray × ByteArray) : DataW.weights (H := H) Tryd.prog 34 (datF f) = [f.1.size, f.2.size] := by
  unfold datF
  simp only [DataW.weights]
  rw [Tryd.underlying34]
  simp only [List.map_cons, List.map_nil, DataW.weightsEach, DataW.weights, List.append_nil]
  rfl
theorem weights_fields {H : Type} : ∀ (fs : Fs) (f : ByteArray × ByteArray), f ∈ fs → f.1.size ∈ DataW.weightsAll (H := H) Tryd.prog 34 (fs.map datF) ∧ f.2.size ∈ DataW.weightsAll (H := H) Tryd.prog 34 (fs.map datF)
  | g :: l, f, h => by
    simp only [List.map_cons, DataW.weightsAll, weights_field]
    rcases List.mem_cons.1 h with rfl | h
    · simp
    · have k := weights_fields (H := H) l f h
      exact ⟨List.mem_append_right _ k.1, List.mem_append_right _ k.2⟩
theorem reach_fs {H : Type} {ts : List TypeId} {ds : List (DataW H)} (h : (DataW.weightsEach Tryd.prog ts ds).all (· ≤ reachBytes) = true) (j : Nat) {d : DataW H} {fs : Fs} (ht : ts[j]? = some 22) (hd : ds[j]? = some d)
    (hx : (d = .nil ∧ fs = []) ∨ ∃ sp, d = .slice (fs.map datF) sp) : FBd 140737488351232 fs := by
  rcases hx with ⟨_, rfl⟩ | ⟨sp, rfl⟩
  · intro f hf; cases hf
  · intro f hf
    have m := DataW.weights_mem_each (P := Tryd.prog) ht hd
    have k := weights_fields (H := H) fs f hf
    rw [List.all_eq_true] at h
    have u : DataW.weights Tryd.prog 22 (DataW.slice (fs.map (datF (H := H))) sp) = ((fs.map (datF (H := H))).length + sp.length) * Tryd.prog.bytesOf 34 :: (DataW.weightsAll Tryd.prog 34 (fs.map (datF (H := H))) ++ DataW.weightsAll Tryd.prog 34 sp) := by
      simp only [DataW.weights]
      rw [Tryd.underlying22]
    rw [u] at m
    have h1 := of_decide_eq_true (h _ (m _ (List.mem_cons_of_mem _ (List.mem_append_left _ k.1))))
    have h2 := of_decide_eq_true (h _ (m _ (List.mem_cons_of_mem _ (List.mem_append_left _ k.2))))
    exact ⟨h1, h2⟩
theorem reach_f {H : Type} {ts : List TypeId} {ds : List (DataW H)} (h : (DataW.weightsEach Tryd.prog ts ds).all (· ≤ reachBytes) = true) (j : Nat) {f : ByteArray × ByteArray} (ht : ts[j]? = some 34) (hd : ds[j]? = some (datF f)) : f.1.size ≤ 140737488351232 ∧ f.2.size ≤ 140737488351232 := by
  have m := DataW.weights_mem_each (P := Tryd.prog) ht hd
  rw [weights_field] at m
  rw [List.all_eq_true] at h
  exact ⟨of_decide_eq_true (h _ (m _ (by simp))), of_decide_eq_true (h _ (m _ (by simp)))⟩
/-- Texts that came in. -/
def datT {H : Type} (x : ByteArray) : DataW H := .lit (.string x.data.toList)
theorem open_texts {H : Type} {enc : TypeId × Value → H} {w : World} {base : Nat} {held : Bool} {a : Option Addr} {len cap : Nat} {x : DataW H × List MemPlace}
    (h : ∃ fuel, DataW.trod enc Tryd.prog w base (fun _ => true) held fuel 23 (Value.slice a len cap).cells.toList = some x) :
    ∃ xs : List ByteArray, Txs w.heap.size w (.slice a len cap) xs ∧ ((x.1 = .nil ∧ xs = []) ∨ ∃ sp, x.1 = .slice (xs.map datT) sp) := by
  obtain ⟨fuel, hf⟩ := h
  rcases Go.Deep.open_strs Tryd.underlying23 Tryd.underlying9 (by kernel_rfl) hf with ⟨hcs, hx⟩ | ⟨ad, l, c, m, Sx, hcs, hb, hl, hm, hmm, hx, hc⟩
  · simp [Value.cells] at hcs
    obtain ⟨rfl, rfl, rfl⟩ := hcs
    exact ⟨[], ⟨none, 0, rfl, fun _ => rfl, Nat.le_refl _, Nat.zero_le _, fun h => absurd h (Nat.lt_irrefl _)⟩, .inl ⟨by rw [hx], rfl⟩⟩
  · simp [Value.cells] at hcs
    obtain ⟨rfl, rfl, rfl⟩ := hcs
    have hmm' : m = cap := by simpa using hmm
    subst hmm'
    have hln : ((List.range len).map Sx).length = len := by simp
    refine ⟨(List.range len).map Sx, ⟨_, _, by rw [hln], (fun e => by cases e), by rw [hln]; exact hl, hm, fun hp => ?_⟩, .inr ⟨(List.range (m - len)).map fun j => .lit (.string (Sx (len + j)).data.toList), ?_⟩⟩
    · rw [hln] at hp
      obtain ⟨b, off, spot⟩ := ad
      have hspot : spot = none := by simpa [Addr.add] using World.cell?_spot (hc 0 (by omega)).1
      subst hspot
      have hcc : ∀ i, i < m → World.cell? w ⟨b, off + i, none⟩ = some (.string (Sx i)) := fun i hi => by
        have k := (hc i hi).1
        rw [addr_add] at k
        exact k
      refine ⟨b, off, rfl, ?_, fun j hj => ?_⟩
      · have k := hcc 0 (by omega)
        unfold World.cell? at k
        rcases Nat.lt_or_ge b w.heap.size with g | g
        · exact g
        · simp [Array.getElem?_eq_none g] at k
      · rw [hln] at hj
        have e : ((List.range len).map Sx)[j]'(by rw [hln]; exact hj) = Sx j := by simp
        rw [e]
        exact hcc j (by omega)
    · rw [hx, List.map_map]; rfl
theorem bulk_ts {H : Type} : ∀ (xs : List ByteArray) (N : Nat), Rows.uptoBulkAll (H := H) (xs.map datT) ≤ N → TBd N xs
  | [], _, _ => fun f hf => by cases hf
  | x :: l, N, h => by
    simp only [List.map_cons, Rows.uptoBulkAll, datT, Rows.uptoBulk] at h
    have e1 : x.data.toList.length = x.size := rfl
    intro y hy
    rcases List.mem_cons.1 hy with rfl | hy
    · omega
    · exact bulk_ts (H := H) l N (by show Rows.uptoBulkAll (l.map datT) ≤ N; omega) y hy
theorem bulk_texts {H : Type} {d : DataW H} {xs : List ByteArray} {N : Nat} (hx : (d = .nil ∧ xs = []) ∨ ∃ sp, d = .slice (xs.map datT) sp) (h : Rows.uptoBulk d ≤ N) : TBd N xs := by
  rcases hx with ⟨_, rfl⟩ | ⟨sp, e⟩
  · intro f hf; cases hf
  · rw [e] at h
    simp only [Rows.uptoBulk] at h
    exact bulk_ts (H := H) xs N (by omega)
end Go.Proofs.YtflgjhknobnnaabDoor
