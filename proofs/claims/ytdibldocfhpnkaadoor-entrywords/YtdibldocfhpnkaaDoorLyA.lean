/- bytes.IndexByte of bytes that lie in memory. -/
import Derived.Test.YtdibldocfhpnkaaDoorRow
import Derived.Test.YtdibldocfhpnkaaDoorLiA
import Derived.Lib.BytesEntry
import Derived.Lib.Walk
import Derived.WalkKit
namespace Go.Proofs.YtdibldocfhpnkaaDoor
open Go.RowKit
set_option linter.unusedVariables false

theorem bytesOf_map (r : List UInt8) : Lib.bytesOf (r.map fun b => (b.toNat : Int)) = r := by
  unfold Lib.bytesOf
  rw [List.map_map]
  conv => rhs; rw [← List.map_id r]
  refine List.map_congr_left fun b _ => ?_
  show ((b.toNat : Int).toNat).toUInt8 = b
  simp
set_option maxRecDepth 100000 in
set_option maxHeartbeats 1000000 in
theorem bindexb_any (r : List UInt8) (k : Nat) (a : Option Addr) (n c : Nat) (w : World) (hS : Src w k (.slice a n c) r) (hp : 0 < r.length) :
    Calls Tryd.prog 47 #[.slice a n c, .int .u8 10] w fun e w' => e = .returned (.int .i64 (Lib.indexByte r 10)) ∧ w' = w := by
  obtain ⟨a', c', e, h1, h2, h3⟩ := hS
  obtain ⟨rfl, rfl, rfl⟩ := slice_inj e
  obtain ⟨off, rfl, hc⟩ := h3 hp
  have hx : (r.map fun b => (b.toNat : Int)).length = r.length := List.length_map _
  have hcell : ∀ i, i < r.length → w.cell? ⟨k, off + i, none⟩ = some (.int .u8 ((r.map fun b => (b.toNat : Int)).getD i 0)) := fun i hi => by
    rw [hc i hi]
    unfold bv
    rw [List.getD, List.getElem?_map, List.getElem?_eq_getElem hi]; rfl
  have hrun := Lib.run_indexByteSlice (P := Tryd.prog) w k off r.length c (r.map fun b => (b.toNat : Int)) hx hcell 10
  rw [bytesOf_map] at hrun
  clear hcell hx hc h3 h1 h2
  go_enter Tryd.func47, Tryd.ntmps47
  go_wp2
  rw [run_callFunc_extern Tryd.func62 (by kernel_rfl) (by kernel_rfl) (by kernel_rfl) (e := Extern.BytealgIndexByte.indexByte) (by kernel_rfl), hrun]
  simp only [Result.andThen]
  rw [Oper.upon_value]
  go_wp2
  go_ret
  exact ⟨rfl, rfl⟩
end Go.Proofs.YtdibldocfhpnkaaDoor
