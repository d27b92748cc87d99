/- Routes that came in, and how large their texts are. -/
import Derived.Test.YtjfcoihfjjcooaaRtD
import Derived.ProofKit
import Derived.OpenShut
import Derived.Below
import Derived.Lib.SmallJoins
import Derived.SizedLaws
import Derived.Deep.Strs
import Derived.Deep.Slices
import Derived.Deep.SlicePairs
namespace Go.Proofs.Ytjfcoihfjjcooaa
open Go.ChangeShapes Go.WideShapes Go.ChangeAt Go.RowKit
set_option linter.unusedVariables false

theorem rt_addr (b o k : Nat) : (⟨b, o, none⟩ : Addr).add k = ⟨b, o + k, none⟩ := Lib.add_plain _ _ _
theorem rt_cell_lt {w : World} {p : Addr} {v : Value} (h : w.cell? p = some v) : p.block < w.heap.size := by
  unfold World.cell? at h
  rcases Nat.lt_or_ge p.block w.heap.size with c | c
  · exact c
  · simp [Array.getElem?_eq_none c] at h
def datR {H : Type} (r : RouteP) : DataW H := .agg [.lit (.string r.p.data.toList), .lit (.string r.u.data.toList), .lit (.string r.s.data.toList)]
theorem rt_cells : Try.prog.cellsOf 26 = 3 := by kernel_rfl
theorem rt_cellsS : Try.prog.cellsOf 9 = 1 := by kernel_rfl
set_option maxRecDepth 100000 in
theorem open_routes {H : Type} {enc : TypeId × Value → H} {w : World} {base : Nat} {held : Bool} {a : Option Addr} {len cap : Nat} {x : DataW H × List MemPlace}
    (h : ∃ fuel, DataW.trod enc Try.prog w base (fun _ => true) held fuel 22 (Value.slice a len cap).cells.toList = some x) :
    ∃ rs : List RouteP, Rts w.heap.size w (.slice a len cap) rs ∧ rs.length = len ∧ ((x.1 = .nil ∧ rs = []) ∨ ∃ sp, x.1 = .slice (rs.map datR) sp) := by
  obtain ⟨fuel, hf⟩ := h
  rcases Go.Deep.open_slice Try.underlying22 hf with ⟨hcs, hx⟩ | ⟨ad, l, c, m, n, D, Pl, hcs, hb, hl, hm, hmm, hx, hc⟩
  · simp [Value.cells] at hcs
    obtain ⟨rfl, rfl, rfl⟩ := hcs
    exact ⟨[], ⟨none, 0, rfl, fun _ => rfl, Nat.le_refl _, Nat.zero_le _, fun h => absurd h (Nat.lt_irrefl _)⟩, rfl, .inl ⟨by rw [hx], rfl⟩⟩
  · simp [Value.cells] at hcs
    obtain ⟨rfl, rfl, rfl⟩ := hcs
    have hmm' : m = cap := by simpa using hmm
    subst hmm'
    have each : ∀ i, i < m → ∃ q : RouteP, (w.cell? (ad.add (i * 3)) = some (.string q.p) ∧ w.cell? (ad.add (i * 3 + 1)) = some (.string q.u) ∧ w.cell? (ad.add (i * 3 + 2)) = some (.string q.s)) ∧ D i = datR q := by
      intro i hi
      obtain ⟨cs', h1, h2⟩ := hc i (by omega)
      rw [rt_cells] at h1
      obtain ⟨_, hlen, hcell⟩ := World.cells?_some h1
      obtain ⟨xs, k, hk, hxy, _, hxl, hf⟩ := DataW.trod_struct Try.underlying26 h2
      match xs, hxl, cs', hlen with
      | [y0, y1, y2], _, [v0, v1, v2], _ =>
        have g0 := hf 0 _ rfl
        have g1 := hf 1 _ rfl
        have g2 := hf 2 _ rfl
        simp [rt_cellsS] at g0 g1 g2
        have e0 := hcell 0 (by omega)
        have e1 := hcell 1 (by omega)
        have e2 := hcell 2 (by omega)
        rw [Go.Deep.add_add] at e0 e1 e2
        obtain ⟨s0, a0, b0, _⟩ := DataW.trod_string Try.underlying9 g0
        obtain ⟨s1, a1, b1, _⟩ := DataW.trod_string Try.underlying9 g1
        obtain ⟨s2, a2, b2, _⟩ := DataW.trod_string Try.underlying9 g2
        have a0' : v0 = .string s0 := by simpa using a0
        have a1' : v1 = .string s1 := by simpa using a1
        have a2' : v2 = .string s2 := by simpa using a2
        subst a0' a1' a2' b0 b1 b2
        simp only [Prod.mk.injEq] at hxy
        refine ⟨⟨s0, s1, s2⟩, ⟨by simpa using e0, by simpa using e1, by simpa using e2⟩, ?_⟩
        rw [hxy.1]
        rfl
    obtain ⟨q, hq⟩ := Go.Deep.choose_lt each
    have hln : ((List.range len).map q).length = len := by simp
    refine ⟨(List.range len).map q, ⟨_, _, by rw [hln], (fun e => by cases e), by rw [hln]; exact hl, hm, fun hp => ?_⟩, hln, .inr ⟨(List.range (m - len)).map fun j => D (len + j), ?_⟩⟩
    · rw [hln] at hp
      obtain ⟨b, off, spot⟩ := ad
      have hc0 := (hq 0 (by omega)).1.1
      have hspot : spot = none := by simpa [Addr.add] using World.cell?_spot hc0
      subst hspot
      refine ⟨b, off, rfl, ?_, fun j hj => ?_⟩
      · have := rt_cell_lt hc0
        rwa [rt_addr] at this
      · rw [hln] at hj
        have e : ((List.range len).map q)[j]'(by rw [hln]; exact hj) = q j := by simp
        rw [e]
        obtain ⟨k0, k1, k2⟩ := (hq j (by omega)).1
        rw [rt_addr] at k0 k1 k2
        exact ⟨k0, by rw [Nat.add_assoc]; exact k1, by rw [Nat.add_assoc]; exact k2⟩
    · rw [hx]
      show DataW.slice _ _ = DataW.slice _ _
      congr 1
      rw [List.map_map]
      refine List.map_congr_left fun i hi => ?_
      have := List.mem_range.1 hi
      exact (hq i (by omega)).2
theorem weights_route {H : Type} (r : RouteP) : DataW.weights (H := H) Try.prog 26 (datR r) = [r.p.size, r.u.size, r.s.size] := by
  unfold datR
  simp only [DataW.weights]
  rw [Try.underlying26]
  simp only [List.map_cons, List.map_nil, DataW.weightsEach, DataW.weights, List.append_nil]
  rfl
theorem weights_routes {H : Type} : ∀ (rs : List RouteP) (r : RouteP), r ∈ rs → r.p.size ∈ DataW.weightsAll (H := H) Try.prog 26 (rs.map datR) ∧ r.s.size ∈ DataW.weightsAll (H := H) Try.prog 26 (rs.map datR)
  | g :: l, r, h => by
    simp only [List.map_cons, DataW.weightsAll, weights_route]
    rcases List.mem_cons.1 h with rfl | h
    · simp
    · have k := weights_routes (H := H) l r h
      exact ⟨List.mem_append_right _ k.1, List.mem_append_right _ k.2⟩
theorem reach_rs {H : Type} {ts : List TypeId} {ds : List (DataW H)} (h : (DataW.weightsEach Try.prog ts ds).all (· ≤ reachBytes) = true) (j : Nat) {d : DataW H} {rs : List RouteP} (ht : ts[j]? = some 22) (hd : ds[j]? = some d)
    (hx : (d = .nil ∧ rs = []) ∨ ∃ sp, d = .slice (rs.map datR) sp) : RBd rs := by
  rcases hx with ⟨_, rfl⟩ | ⟨sp, rfl⟩
  · intro f hf; cases hf
  · intro f hf
    have m := DataW.weights_mem_each (P := Try.prog) ht hd
    have k := weights_routes (H := H) rs f hf
    rw [List.all_eq_true] at h
    have u : DataW.weights Try.prog 22 (DataW.slice (rs.map (datR (H := H))) sp) = ((rs.map (datR (H := H))).length + sp.length) * Try.prog.bytesOf 26 :: (DataW.weightsAll Try.prog 26 (rs.map (datR (H := H))) ++ DataW.weightsAll Try.prog 26 sp) := by
      simp only [DataW.weights]
      rw [Try.underlying22]
    rw [u] at m
    have h1 := of_decide_eq_true (h _ (m _ (List.mem_cons_of_mem _ (List.mem_append_left _ k.1))))
    have h2 := of_decide_eq_true (h _ (m _ (List.mem_cons_of_mem _ (List.mem_append_left _ k.2))))
    unfold reachBytes at h1 h2
    exact ⟨by omega, by omega⟩
theorem reach_str {H : Type} {ts : List TypeId} {ds : List (DataW H)} (h : (DataW.weightsEach Try.prog ts ds).all (· ≤ reachBytes) = true) (j : Nat) {s : ByteArray} (ht : ts[j]? = some 9) (hd : ds[j]? = some (.lit (.string s.data.toList))) : s.size ≤ 140737488355328 := by
  have m := DataW.weights_mem_each (P := Try.prog) ht hd
  rw [List.all_eq_true] at h
  have h1 := of_decide_eq_true (h _ (m s.size (by simp only [DataW.weights]; exact List.mem_cons_self)))
  unfold reachBytes at h1
  omega
end Go.Proofs.Ytjfcoihfjjcooaa
