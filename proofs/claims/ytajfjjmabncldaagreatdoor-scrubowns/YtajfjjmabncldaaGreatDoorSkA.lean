/- Texts that the proof leans on, one behind the other: ScQ -/
import Derived.Test.YtajfjjmabncldaaGreatDoorSk5
import Derived.Test.YtajfjjmabncldaaGreatDoorSk7
import Derived.Test.YtajfjjmabncldaaGreatDoorSk8
/- The gate's own responses are read as themselves: plain. -/
namespace Go.Proofs.YtajfjjmabncldaaGreatDoor
open Go.RowKit
set_option linter.unusedVariables false

def tGetO : ByteArray := ⟨#[71, 69, 84]⟩
/-- One of the gate's own, as it is written. -/
def ownB (c : Nat) (t : Bool) : List UInt8 := writeB (staT (verT 1) (itoaS (200 + (c : Int))) (reasonS (200 + (c : Int)))) (ownFs t) []
def ownQ (c : Nat) (t : Bool) : Rp := ⟨200 + (c : Int), reasonS (200 + (c : Int)), 1, ownFs t, [], (ownB c t).length, true⟩
set_option maxRecDepth 100000 in
theorem own_f : (List.range 256).map (fun c => respQ (ownB c false) tGetO false) = (List.range 256).map (fun c => ownQ c false) := by kernel_rfl
set_option maxRecDepth 100000 in
theorem own_t : (List.range 256).map (fun c => respQ (ownB c true) tGetO false) = (List.range 256).map (fun c => ownQ c true) := by kernel_rfl
theorem own_read (c : Nat) (hc : c < 256) (t : Bool) : respQ (ownB c t) tGetO false = ownQ c t := by
  cases t
  · exact List.map_inj_left.1 own_f c (List.mem_range.2 hc)
  · exact List.map_inj_left.1 own_t c (List.mem_range.2 hc)
set_option maxRecDepth 100000 in
theorem own_n0 : ((List.range 256).all fun c => decide ((itoaS (200 + (c : Int))).size = 3) && (!hasP (itoaS (200 + (c : Int))) ⟨#[45]⟩) && decide ((reasonS (200 + (c : Int))).size ≤ 100)
    && decide ((ownB c false).length ≤ 200) && decide ((ownB c true).length ≤ 200) && decide (0 < (ownB c false).length) && decide (0 < (ownB c true).length)) = true := by kernel_rfl
theorem own_n (c : Nat) (hc : c < 256) (t : Bool) : (itoaS (200 + (c : Int))).size = 3 ∧ hasP (itoaS (200 + (c : Int))) ⟨#[45]⟩ = false ∧ (reasonS (200 + (c : Int))).size ≤ 100 ∧ (ownB c t).length ≤ 200 ∧ 0 < (ownB c t).length := by
  have k := List.all_eq_true.1 own_n0 c (List.mem_range.2 hc)
  simp only [Bool.and_eq_true, decide_eq_true_eq, Bool.not_eq_true'] at k
  obtain ⟨⟨⟨⟨⟨⟨k1, k2⟩, k3⟩, k4⟩, k5⟩, k6⟩, k7⟩ := k
  cases t
  · exact ⟨k1, k2, k3, k4, k6⟩
  · exact ⟨k1, k2, k3, k5, k7⟩
theorem own_more (c : Nat) (hc : c < 256) (t : Bool) (more : List UInt8) : respQ (ownB c t ++ more) tGetO false = ownQ c t := by
  have k := own_read c hc t
  rw [respQ_app (ownB c t) more tGetO (by rw [k]; exact Or.inl (by have := (own_n c hc t).2.2.2.2; unfold ownQ; simp only; omega)), k]
end Go.Proofs.YtajfjjmabncldaaGreatDoor
