/- How long a body is, as plain functions of the fields. -/
import Derived.Test.YthbjdbookiejeabGreatDoorFsB
import Derived.Test.YthbjdbookiejeabGreatDoorNumM
namespace Go.Proofs.YthbjdbookiejeabGreatDoor
open Go.RowKit
set_option linter.unusedVariables false

def anyT (xs : List ByteArray) (s : ByteArray) : Bool := xs.any fun x => smT x s
def hasF (fs : Fs) (n p : ByteArray) : Bool := anyT (listF fs n) p
def tCL : ByteArray := ⟨#[67, 111, 110, 116, 101, 110, 116, 45, 76, 101, 110, 103, 116, 104]⟩
def tTE : ByteArray := ⟨#[84, 114, 97, 110, 115, 102, 101, 114, 45, 69, 110, 99, 111, 100, 105, 110, 103]⟩
def tCo : ByteArray := ⟨#[67, 111, 110, 110, 101, 99, 116, 105, 111, 110]⟩
def tCh : ByteArray := ⟨#[99, 104, 117, 110, 107, 101, 100]⟩
def tClose : ByteArray := ⟨#[99, 108, 111, 115, 101]⟩
def tKeep : ByteArray := ⟨#[107, 101, 101, 112, 45, 97, 108, 105, 118, 101]⟩
def thereF (fs : Fs) (n : ByteArray) : Bool := decide (0 < (getF fs n).length)
def chunkL (xs : List ByteArray) : Bool := match xs with | [p] => smT p tCh | _ => false
def chunkedF (fs : Fs) : Bool := chunkL (listF fs tTE)
def sameN (first : Int) (ps : List ByteArray) : Bool := ps.all fun q => numB 10 18 q && decide (numI 10 18 q = first)
def lenL (ps : List ByteArray) : Int × Bool := match ps with | [] => (0, false) | p :: r => if (numB 10 18 p && sameN (numI 10 18 p) r) = true then (numI 10 18 p, true) else (0, false)
def lengthF (fs : Fs) : Int × Bool := lenL (listF fs tCL)
def toldF (fs : Fs) (minor : Int) : Int × Int × Int :=
  if (thereF fs tTE && (thereF fs tCL || decide (minor = 0))) = true then (0, 0, 400)
  else if thereF fs tTE = true then (if chunkedF fs = true then (2, 0, 0) else (0, 0, 501))
  else if thereF fs tCL = false then (3, 0, 0)
  else if (lengthF fs).2 = false then (0, 0, 400)
  else if 4096 < (lengthF fs).1 then (0, 0, 413) else (1, (lengthF fs).1, 0)
def closesF (fs : Fs) (minor : Int) : Bool := hasF fs tCo tClose || (decide (minor = 0) && !hasF fs tCo tKeep)
def bareF (method : ByteArray) (code : Int) : Bool := decide (method = ⟨#[72, 69, 65, 68]⟩) || decide (code < 200) || decide (code = 204) || decide (code = 304)
def reqF (fs : Fs) (minor : Int) : Int × Bool × Int := ((toldF fs minor).2.1, decide ((toldF fs minor).1 = 2), (toldF fs minor).2.2)
def respF (method : ByteArray) (code minor : Int) (fs : Fs) : Int × Int × Bool := if bareF method code = true then (0, 0, true) else ((toldF fs minor).1, (toldF fs minor).2.1, decide ((toldF fs minor).2.2 = 0))

theorem smT_congr {n n' : ByteArray} (h : foldS n = foldS n') (a : ByteArray) : smT a n = smT a n' := by unfold smT; rw [h]
theorem getF_congr {n n' : ByteArray} (h : foldS n = foldS n') (fs : Fs) : getF fs n = getF fs n' := by
  unfold getF
  rw [funext fun f : ByteArray × ByteArray => smT_congr h f.1]
theorem listF_congr {n n' : ByteArray} (h : foldS n = foldS n') (fs : Fs) : listF fs n = listF fs n' := by unfold listF; rw [getF_congr h]
theorem numI_bd (s : ByteArray) : 0 ≤ numI 10 18 s ∧ numI 10 18 s < 1000000000000000000 := by
  unfold numI numV
  split
  · exact ⟨by decide, by decide⟩
  · rename_i h
    cases hv : vN 10 s.data.toList with
    | none => exact ⟨by decide, by decide⟩
    | some n =>
      have k := vN_take_lt 10 18 (by decide) s s.size (by omega) n (by rw [List.take_of_length_le (show s.data.toList.length ≤ s.size from Nat.le_refl _)]; exact hv)
      show 0 ≤ (n : Int) ∧ (n : Int) < _
      have e : (10 : Nat) ^ 18 = 1000000000000000000 := by decide
      omega
theorem lenL_bd (ps : List ByteArray) : 0 ≤ (lenL ps).1 ∧ (lenL ps).1 < 1000000000000000000 := by
  unfold lenL
  split
  · exact ⟨by decide, by decide⟩
  · split
    · exact numI_bd _
    · exact ⟨by decide, by decide⟩
theorem listF_mem {fs : Fs} {n x : ByteArray} (h : x ∈ listF fs n) : ∃ y ∈ getF fs n, x ∈ splT y := by
  unfold listF splA at h
  exact List.mem_flatMap.1 h
end Go.Proofs.YthbjdbookiejeabGreatDoor
