/- Flows that came in. -/
import Derived.Test.YtnfpbkllpkbdiaaRbN
import Derived.ProofKit
import Derived.OpenShut
import Derived.Deep.Slices
import Derived.Deep.SlicePairs
namespace Go.Proofs.Ytnfpbkllpkbdiaa
open Go.ChangeShapes Go.WideShapes Go.ChangeAt Go.RowKit
set_option linter.unusedVariables false

theorem wrap_inR {z : Int} (h : (Lit.int IntKind.i64 z).wf = true) : InR z := by
  have hh : IntKind.i64.min ≤ z ∧ z ≤ IntKind.i64.max := by simpa [Lit.wf] using h
  obtain ⟨h1, h2⟩ := hh
  have e1 : IntKind.i64.min = -9223372036854775808 := by decide
  have e2 : IntKind.i64.max = 9223372036854775807 := by decide
  unfold InR
  omega
theorem open_flows {H : Type} {enc : TypeId × Value → H} {w : World} {base : Nat} {held : Bool} {a : Option Addr} {len cap : Nat} {x : DataW H × List MemPlace}
    (h : ∃ fuel, DataW.trod enc Try.prog w base (fun _ => true) held fuel 22 (Value.slice a len cap).cells.toList = some x) :
    ∃ fs : List Fl, fs.length = len ∧ Fls w a cap fs ∧ ∀ f ∈ fs, InR f.1 ∧ InR f.2 := by
  obtain ⟨fuel, hf⟩ := h
  rcases Go.Deep.open_slice_pairs Try.underlying22 Try.underlying31 (by kernel_rfl) rfl rfl (by kernel_rfl) (by kernel_rfl) hf with ⟨hcs, hx⟩ | ⟨ad, l, c, m, n, V0, V1, D0, D1, P0, P1, hcs, hb, hl, hm, hmm, hx, hc⟩
  · simp [Value.cells] at hcs
    obtain ⟨rfl, rfl, rfl⟩ := hcs
    exact ⟨[], rfl, ⟨fun _ => rfl, Nat.le_refl _, Nat.zero_le _, fun h => absurd h (Nat.lt_irrefl _)⟩, fun f hf => by cases hf⟩
  · simp [Value.cells] at hcs
    obtain ⟨rfl, rfl, rfl⟩ := hcs
    have hmm' : m = cap := by simpa using hmm
    subst hmm'
    have each : ∀ i, i < m → ∃ q : Fl, V0 i = .int .i64 q.1 ∧ V1 i = .int .i64 q.2 ∧ InR q.1 ∧ InR q.2 := by
      intro i hi
      obtain ⟨_, _, g0, g1⟩ := hc i hi
      obtain ⟨s0, e0, f0, z0⟩ := DataW.trod_int Try.underlying3 g0
      obtain ⟨s1, e1, f1, z1⟩ := DataW.trod_int Try.underlying3 g1
      exact ⟨(s0, s1), by simpa using e0, by simpa using e1, wrap_inR z0, wrap_inR z1⟩
    obtain ⟨q, hq⟩ := Go.Deep.choose_lt each
    have hln : ((List.range len).map q).length = len := by simp
    refine ⟨(List.range len).map q, hln, ⟨(fun e => by cases e), by rw [hln]; exact hl, hm, fun hp => ?_⟩, ?_⟩
    · rw [hln] at hp
      obtain ⟨b, off, spot⟩ := ad
      have hspot : spot = none := by simpa [Addr.add] using World.cell?_spot (hc 0 (by omega)).1
      subst hspot
      have hcc : ∀ i, i < m → World.cell? w ⟨b, off + i * 2, none⟩ = some (V0 i) ∧ World.cell? w ⟨b, off + i * 2 + 1, none⟩ = some (V1 i) := fun i hi => by
        have k := hc i hi
        rw [addr_add, addr_add] at k
        exact ⟨k.1, by rw [Nat.add_assoc]; exact k.2.1⟩
      refine ⟨b, off, rfl, ?_, fun j hj => ?_⟩
      · have k := (hcc 0 (by omega)).1
        unfold World.cell? at k
        rcases Nat.lt_or_ge b w.heap.size with g | g
        · exact g
        · simp [Array.getElem?_eq_none g] at k
      · rw [hln] at hj
        have e : ((List.range len).map q).getD j (0, 0) = q j := by simp [List.getD_eq_getElem?_getD, hj]
        rw [e, ← (hq j (by omega)).1, ← (hq j (by omega)).2.1]
        exact hcc j (by omega)
    · intro f hf
      obtain ⟨i, hi, rfl⟩ := List.mem_map.1 hf
      have := List.mem_range.1 hi
      exact (hq i (by omega)).2.2
end Go.Proofs.Ytnfpbkllpkbdiaa
