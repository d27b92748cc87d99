/- A field that came in; how large the texts are that came in. -/
import Derived.Test.YtflgjhknobnnaabDoorFsC
import Derived.Lib.SmallJoins
import Derived.SizedLaws
namespace Go.Proofs.YtflgjhknobnnaabDoor
open Go.ChangeShapes Go.WideShapes Go.ChangeAt Go.RowKit
set_option linter.unusedVariables false

theorem open_field {H : Type} {enc : TypeId × Value → H} {w : World} {r : Reach} {b0 base : Nat} {held : Bool} {v : Value} {d : DataW H} {p : List MemPlace}
    (hv : Value.okWide Tryd.prog w r b0 34 v) (h : DataW.Trod enc Tryd.prog w base (fun _ => true) held 34 v d p) :
    ∃ f : ByteArray × ByteArray, v = .agg #[.string f.1, .string f.2] ∧ d = datF f := by
  have ks : Tryd.prog.cellsOf 9 = 1 := by kernel_rfl
  obtain ⟨cs, rfl, hsz⟩ := okWide_struct Tryd.underlying34 hv
  obtain ⟨c0, c1, rfl⟩ : ∃ c0 c1, cs = #[c0, c1] := by
    have h2 := hsz.trans (show Tryd.prog.cellsOf 34 = 2 by kernel_rfl)
    obtain ⟨l⟩ := cs
    match l, h2 with
    | [x0, x1], _ => exact ⟨x0, x1, rfl⟩
  obtain ⟨fuel, hf⟩ := h
  obtain ⟨xs, n, _, hx, _, hxl, hg⟩ := DataW.trod_struct Tryd.underlying34 hf
  match xs, hxl, hx, hg with
  | [y0, y1], _, hx, hg =>
    have g0 := hg 0 _ rfl
    have g1 := hg 1 _ rfl
    simp [Value.cells, ks] at g0 g1
    obtain ⟨s0, e0, f0, _⟩ := DataW.trod_string Tryd.underlying9 g0
    obtain ⟨s1, e1, f1, _⟩ := DataW.trod_string Tryd.underlying9 g1
    simp only [Prod.mk.injEq] at hx
    have e0' : c0 = .string s0 := by simpa using e0
    have e1' : c1 = .string s1 := by simpa using e1
    subst e0' e1'
    exact ⟨(s0, s1), rfl, by rw [hx.1, f0, f1]; rfl⟩
theorem weights_field {H : Type} (f : ByteArray × ByteArray) : DataW.weights (H := H) Tryd.prog 34 (datF f) = [f.1.size, f.2.size] := by
  unfold datF
  simp only [DataW.weights]
  rw [Tryd.underlying34]
  simp only [List.map_cons, List.map_nil, DataW.weightsEach, DataW.weights, List.append_nil]
  rfl
theorem weights_fields {H : Type} : ∀ (fs : Fs) (f : ByteArray × ByteArray), f ∈ fs → f.1.size ∈ DataW.weightsAll (H := H) Tryd.prog 34 (fs.map datF) ∧ f.2.size ∈ DataW.weightsAll (H := H) Tryd.prog 34 (fs.map datF)
  | g :: l, f, h => by
    simp only [List.map_cons, DataW.weightsAll, weights_field]
    rcases List.mem_cons.1 h with rfl | h
    · simp
    · have k := weights_fields (H := H) l f h
      exact ⟨List.mem_append_right _ k.1, List.mem_append_right _ k.2⟩
theorem reach_fs {H : Type} {ts : List TypeId} {ds : List (DataW H)} (h : (DataW.weightsEach Tryd.prog ts ds).all (· ≤ reachBytes) = true) (j : Nat) {d : DataW H} {fs : Fs} (ht : ts[j]? = some 22) (hd : ds[j]? = some d)
    (hx : (d = .nil ∧ fs = []) ∨ ∃ sp, d = .slice (fs.map datF) sp) : FBd 140737488351232 fs := by
  rcases hx with ⟨_, rfl⟩ | ⟨sp, rfl⟩
  · intro f hf; cases hf
  · intro f hf
    have m := DataW.weights_mem_each (P := Tryd.prog) ht hd
    have k := weights_fields (H := H) fs f hf
    rw [List.all_eq_true] at h
    have u : DataW.weights Tryd.prog 22 (DataW.slice (fs.map (datF (H := H))) sp) = ((fs.map (datF (H := H))).length + sp.length) * Tryd.prog.bytesOf 34 :: (DataW.weightsAll Tryd.prog 34 (fs.map (datF (H := H))) ++ DataW.weightsAll Tryd.prog 34 sp) := by
      simp only [DataW.weights]
      rw [Tryd.underlying22]
    rw [u] at m
    have h1 := of_decide_eq_true (h _ (m _ (List.mem_cons_of_mem _ (List.mem_append_left _ k.1))))
    have h2 := of_decide_eq_true (h _ (m _ (List.mem_cons_of_mem _ (List.mem_append_left _ k.2))))
    exact ⟨h1, h2⟩
theorem reach_f {H : Type} {ts : List TypeId} {ds : List (DataW H)} (h : (DataW.weightsEach Tryd.prog ts ds).all (· ≤ reachBytes) = true) (j : Nat) {f : ByteArray × ByteArray} (ht : ts[j]? = some 34) (hd : ds[j]? = some (datF f)) : f.1.size ≤ 140737488351232 ∧ f.2.size ≤ 140737488351232 := by
  have m := DataW.weights_mem_each (P := Tryd.prog) ht hd
  rw [weights_field] at m
  rw [List.all_eq_true] at h
  exact ⟨of_decide_eq_true (h _ (m _ (by simp))), of_decide_eq_true (h _ (m _ (by simp)))⟩
end Go.Proofs.YtflgjhknobnnaabDoor
