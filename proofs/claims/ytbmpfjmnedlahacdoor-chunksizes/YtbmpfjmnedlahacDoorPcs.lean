/- A list of lists of bytes that came in. -/
import Derived.Test.YtbmpfjmnedlahacDoorRow
import Derived.Deep.Matrix
namespace Go.Proofs.YtbmpfjmnedlahacDoor
open Go.ChangeShapes Go.WideShapes Go.ChangeAt Go.RowKit
set_option linter.unusedVariables false

def IsPieces (w : World) (a : Option Addr) (len : Nat) : Prop :=
  len ≤ maxLen ∧ (0 < len → ∃ b off, a = some ⟨b, off, none⟩ ∧ b < w.heap.size ∧ ∀ i, i < len → ∃ pa pc kp P, w.cell? ⟨b, off + i, none⟩ = some (.slice pa P.length pc) ∧ Src w kp (.slice pa P.length pc) P ∧ (0 < P.length → kp < w.heap.size) ∧ (pa = none → pc = 0))

theorem nums_bytes (zs : List Int) (len : Nat) (hl : len ≤ zs.length) (hw : ∀ n ∈ zs, (Lit.int .u8 n).wf = true) : ∃ P : List UInt8, P.length = len ∧ ∀ (j : Nat) (hj : j < P.length), Value.int .u8 (zs.getD j 0) = bv P[j] := by
  have hbl : ((zs.take len).map fun z => z.toNat.toUInt8).length = len := by rw [List.length_map, List.length_take]; omega
  refine ⟨(zs.take len).map fun z => z.toNat.toUInt8, hbl, fun j hj => ?_⟩
  have hj' : j < len := by rw [hbl] at hj; exact hj
  have hg : zs.getD j 0 = zs[j]'(by omega) := by simp [List.getD, List.getElem?_eq_getElem (show j < zs.length by omega)]
  have hb := bounds_u8 (hw _ (List.getElem_mem (show j < zs.length by omega)))
  rw [hg, List.getElem_map, List.getElem_take]
  unfold bv
  generalize zs[j]'(by omega) = z at hb
  have e : (z.toNat.toUInt8.toNat : Int) = z := by
    have : z.toNat.toUInt8.toNat = z.toNat := by simp; omega
    rw [this]; omega
  rw [e]
theorem open_bytess {H : Type} {enc : TypeId × Value → H} {w : World} {base : Nat} {held : Bool} {a : Option Addr} {len cap : Nat} {x : DataW H × List MemPlace}
    (h : ∃ fuel, DataW.trod enc Tryd.prog w base (fun _ => true) held fuel 22 (Value.slice a len cap).cells.toList = some x) : IsPieces w a len := by
  obtain ⟨fuel, hf⟩ := h
  rcases Go.Deep.open_int_rows Tryd.underlying22 Tryd.underlying25 Tryd.underlying5 (by kernel_rfl) (by kernel_rfl) hf with ⟨hcs, _⟩ | ⟨x, l, c, A, L, C, Z, hcs, _, hl, hm, _, hrow⟩
  · simp [Value.cells] at hcs
    obtain ⟨rfl, rfl, rfl⟩ := hcs
    exact ⟨Nat.zero_le _, fun h => absurd h (Nat.lt_irrefl _)⟩
  · simp [Value.cells] at hcs
    obtain ⟨rfl, rfl, rfl⟩ := hcs
    refine ⟨Nat.le_trans hl hm, fun hp => ?_⟩
    obtain ⟨b, off, spot⟩ := x
    have hspot : spot = none := by simpa [Addr.add] using World.cell?_spot (hrow 0 (by omega)).1
    subst hspot
    refine ⟨b, off, rfl, ?_, fun i hi => ?_⟩
    · have := cell_lt (hrow 0 (by omega)).1
      rwa [addr_add] at this
    · obtain ⟨q1, q2, q3, q4, q5, q6, q7⟩ := hrow i (by omega)
      rw [addr_add] at q1
      obtain ⟨P, hP, hbyte⟩ := nums_bytes (Z i) (L i) (by omega) q5
      rcases Nat.eq_zero_or_pos P.length with hz | hz
      · exact ⟨A i, C i, 0, P, by rw [hP]; exact q1, ⟨A i, C i, rfl, by omega, q3, fun h => by omega⟩, fun h => by omega, q6⟩
      · cases hA : A i with
        | none => have := q6 hA; omega
        | some a' =>
          obtain ⟨r1, r2⟩ := q7 a' hA
          obtain ⟨b', off', spot'⟩ := a'
          have hsp : spot' = none := by simpa [Addr.add] using World.cell?_spot (r2 0 (by omega))
          subst hsp
          refine ⟨some ⟨b', off', none⟩, C i, b', P, by rw [hP, ← hA]; exact q1, ⟨_, _, rfl, by omega, q3, fun _ => ⟨off', rfl, fun j hj => ?_⟩⟩, fun _ => ?_, fun c => by cases c⟩
          · have := r2 j (by omega)
            rw [addr_add, hbyte j hj] at this
            exact this
          · have := cell_lt (r2 0 (by omega))
            rwa [addr_add] at this

end Go.Proofs.YtbmpfjmnedlahacDoor
