/- Fold: what it answers of every text. -/
import Derived.Test.YthbjdbookiejeabGreatDoorRows
import Derived.WalkKit
import Derived.WalkSpells
import Derived.WalkLawsBesides
import Derived.Lib.Walk
import Derived.Lib.ItoaMem
import Derived.Laws.IdiomStrings
namespace Go.Proofs.YthbjdbookiejeabGreatDoor
open Go.RowKit
set_option linter.unusedVariables false

def bvT (b : UInt8) : Value := .int .u8 (b.toNat : Int)
def foldB (b : UInt8) : UInt8 := if 65 ≤ (b.toNat : Int) ∧ (b.toNat : Int) ≤ 90 then (b.toNat + 32).toUInt8 else b
def foldL (l : List UInt8) : List UInt8 := l.map foldB
def foldS (s : ByteArray) : ByteArray := ⟨(foldL s.data.toList).toArray⟩
theorem foldB_yes {b : UInt8} (h0 : 65 ≤ (b.toNat : Int)) (h1 : (b.toNat : Int) ≤ 90) : bvT (foldB b) = .int .u8 ((b.toNat : Int) + 32) := by
  unfold bvT foldB
  rw [if_pos ⟨h0, h1⟩]
  have : (b.toNat + 32).toUInt8.toNat = b.toNat + 32 := by simp; omega
  rw [this]; rfl
theorem foldB_no {b : UInt8} (h : ¬ (65 ≤ (b.toNat : Int) ∧ (b.toNat : Int) ≤ 90)) : foldB b = b := by unfold foldB; rw [if_neg h]

/-- A row of bytes with spare places behind. -/
def rowT (l : List UInt8) (z : List Value) : Array Value := (l.map bvT ++ z).toArray
def InRow (w : World) (b : Nat) (l : List UInt8) (z : List Value) : Prop := w.heap[b]? = some (.cells (rowT l z) 5 ((rowT l z).size, (rowT l z).size + 1))
theorem rowT_size (l : List UInt8) (z : List Value) : (rowT l z).size = l.length + z.length := by simp [rowT]
theorem rowT_at (l : List UInt8) (z : List Value) (j : Nat) (h : j < l.length) : (rowT l z)[j]? = some (bvT l[j]) := by
  unfold rowT
  rw [List.getElem?_toArray, List.getElem?_append_left (by simpa using h)]
  simp [h]
theorem InRow.cell {w : World} {b : Nat} {l : List UInt8} {z : List Value} (h : InRow w b l z) (j : Nat) (hj : j < l.length) : w.cell? ⟨b, j, none⟩ = some (.int .u8 (l[j].toNat : Int)) := by
  have k := rowT_at l z j hj
  unfold InRow at h
  simp [World.cell?, h, k]; rfl
theorem InRow.z {w : World} {b : Nat} {l : List UInt8} {z : List Value} (h : InRow w b l z) (j : Nat) (hj : j < l.length) : w.frozen? ⟨b, j, none⟩ = false := by
  unfold InRow at h
  have := rowT_size l z
  simp [World.frozen?, h]; omega
theorem InRow.set {w : World} {b : Nat} {l : List UInt8} {z : List Value} (h : InRow w b l z) (j : Nat) (hj : j < l.length) (x : UInt8) : InRow (w.setCell ⟨b, j, none⟩ (bvT x)) b (l.set j x) z := by
  have e : (rowT l z).setIfInBounds j (bvT x) = rowT (l.set j x) z := by
    unfold rowT
    rw [List.setIfInBounds_toArray, List.set_append_left _ _ (by simpa using hj), List.map_set]
  have es : (rowT (l.set j x) z).size = (rowT l z).size := by rw [rowT_size, rowT_size, List.length_set]
  unfold InRow at *
  rw [es, ← e]
  simp [World.setCell, Array.getElem?_modify, h]
theorem InRow.new (w : World) (s : ByteArray) (cap : Nat) : InRow (w.alloc (.cells (bytesRow s cap) 5 ((bytesRow s cap).size, (bytesRow s cap).size + 1))) w.heap.size s.data.toList (List.replicate (cap - s.size) (.int .u8 0)) := by
  have e : bytesRow s cap = rowT s.data.toList (List.replicate (cap - s.size) (.int .u8 0)) := by
    unfold bytesRow rowT
    apply Array.toList_inj.1
    simp [bvT]
    try rfl
  unfold InRow
  rw [← e]
  show (w.heap.push _)[w.heap.size]? = _
  simp

theorem foldL_take (l : List UInt8) (k : Nat) (h : k < l.length) : (foldL (l.take k) ++ l.drop k).set k (foldB l[k]) = foldL (l.take (k + 1)) ++ l.drop (k + 1) := by
  have hl : (foldL (l.take k)).length = k := by simp [foldL]; omega
  rw [List.drop_eq_getElem_cons h, List.set_append_right _ _ (by omega), hl, Nat.sub_self, List.set_cons_zero, List.take_succ_eq_append_getElem h]
  unfold foldL
  rw [List.map_append, List.append_assoc]; rfl
theorem foldL_at (l : List UInt8) (k : Nat) (h : k < l.length) : (foldL (l.take k) ++ l.drop k)[k]? = some l[k] := by
  have hl : (foldL (l.take k)).length = k := by simp [foldL]; omega
  rw [List.getElem?_append_right (by omega), hl, Nat.sub_self, List.drop_eq_getElem_cons h]; rfl
theorem foldL_len (l : List UInt8) (k : Nat) (h : k ≤ l.length) : (foldL (l.take k) ++ l.drop k).length = l.length := by simp [foldL]; omega

theorem fold_set_same (s : ByteArray) (k : Nat) (h : k < s.size) : (foldL (s.data.toList.take k) ++ s.data.toList.drop k).set k s[k] = foldL (s.data.toList.take k) ++ s.data.toList.drop k := by
  have h1 := foldL_at s.data.toList k h
  have hl : k < (foldL (s.data.toList.take k) ++ s.data.toList.drop k).length := (List.getElem?_eq_some_iff.1 h1).1
  rw [List.getElem?_eq_getElem hl] at h1
  have e : (foldL (s.data.toList.take k) ++ s.data.toList.drop k)[k] = s[k] := Option.some.inj h1
  rw [← e]
  exact List.set_getElem_self hl

set_option maxRecDepth 100000 in
set_option maxHeartbeats 2000000 in
theorem fold_any (s : ByteArray) (w : World) (hs : s.size ≤ maxLen) :
    Calls Tryz.prog 39 #[.string s] w fun e w' => e = .returned (.string (foldS s)) ∧ Below w.heap.size w w' := by
  unfold maxLen at hs
  have hcv := run_bytes_of_string (P := Tryz.prog) w 9 22 5 s Tryz.underlying9 Tryz.underlying22 Tryz.underlying5
  have hrow : InRow ((w.alloc (.cells (bytesRow s (grownCap w s.size 0 5)) 5 ((bytesRow s (grownCap w s.size 0 5)).size, (bytesRow s (grownCap w s.size 0 5)).size + 1))).drew) w.heap.size s.data.toList (List.replicate (grownCap w s.size 0 5 - s.size) (.int .u8 0)) := InRow.new w s _
  generalize List.replicate (grownCap w s.size 0 5 - s.size) (Value.int .u8 0) = z at *
  go_enter Tryz.func39, Tryz.ntmps39
  go_wp2_with fail
  have HB : Below w.heap.size w ((w.alloc (.cells (bytesRow s (grownCap w s.size 0 5)) 5 ((bytesRow s (grownCap w s.size 0 5)).size, (bytesRow s (grownCap w s.size 0 5)).size + 1))).drew) := ((Below.refl _ _).alloc (Nat.le_refl _) _).drew
  clear hcv
  generalize grownCap w s.size 0 5 = cap at *
  go_loopw [9] (fun vi wr => ∃ k : Nat, k ≤ s.size ∧ vi = .int .i64 k ∧ InRow wr w.heap.size (foldL (s.data.toList.take k) ++ s.data.toList.drop k) z ∧ Below w.heap.size w wr) (fun vi _ => s.size - (intOf vi).toNat)
  case atStart => exact ⟨0, Nat.zero_le _, rfl, hrow, HB⟩
  case round =>
    obtain ⟨k, hk, rfl, hr, hB⟩ := hrel
    clear hrow HB
    by_cases hlt : k < s.size
    · have hlen : s.data.toList.length = s.size := rfl
      have hl2 : k < (foldL (s.data.toList.take k) ++ s.data.toList.drop k).length := by rw [foldL_len _ _ (by omega)]; omega
      have e1 : (foldL (s.data.toList.take k) ++ s.data.toList.drop k)[k] = s[k] := by
        have h1 := foldL_at s.data.toList k (by omega)
        rw [List.getElem?_eq_getElem hl2] at h1
        exact Option.some.inj h1
      have hc := hr.cell k hl2
      have hz := hr.z k hl2
      rw [e1] at hc
      have HS : Hid (∀ x : UInt8, x = foldB s[k] → InRow (wr.setCell ⟨w.heap.size, k, none⟩ (bvT x)) w.heap.size (foldL (s.data.toList.take (k + 1)) ++ s.data.toList.drop (k + 1)) z) := fun x hx => by
        have h1 := hr.set k hl2 x
        rw [hx] at h1
        rw [← foldL_take s.data.toList k (by omega), hx]
        exact h1
      have HR : Hid (InRow wr w.heap.size (foldL (s.data.toList.take k) ++ s.data.toList.drop k) z) := hr
      have HF : Hid (s.data.toList.length = s.size) := hlen
      clear hr e1 hl2 hlen
      by_cases a : 65 ≤ (s[k].toNat : Int)
      · by_cases b : (s[k].toNat : Int) ≤ 90
        · go_wp2
          go_roundw
          case rel => exact ⟨k + 1, by omega, by go_num, by rw [← foldB_yes a b]; exact HS.out _ rfl, hB.setCell (Nat.le_refl _) _⟩
          case measure => simp [intOf]; omega
        · go_wp2
          go_roundw
          case rel =>
            refine ⟨k + 1, by omega, by go_num, ?_, hB⟩
            rw [← foldL_take s.data.toList k (by have := HF.out; omega), show s.data.toList[k]'(by have := HF.out; omega) = s[k] from rfl, foldB_no (by omega), fold_set_same s k hlt]
            exact HR.out
          case measure => simp [intOf]; omega
      · go_wp2
        go_roundw
        case rel =>
          refine ⟨k + 1, by omega, by go_num, ?_, hB⟩
          rw [← foldL_take s.data.toList k (by have := HF.out; omega), show s.data.toList[k]'(by have := HF.out; omega) = s[k] from rfl, foldB_no (by omega), fold_set_same s k hlt]
          exact HR.out
        case measure => simp [intOf]; omega
    · have hk' : k = s.size := by omega
      subst hk'
      have hlen : s.data.toList.length = s.size := rfl
      rw [List.take_of_length_le (by omega), List.drop_of_length_le (by omega), List.append_nil] at hr
      have hfl : (foldL s.data.toList).length = s.size := by unfold foldL; rw [List.length_map]; rfl
      have hcv : (convert 22 9 (.slice (some ⟨w.heap.size, 0, none⟩) s.size cap)).run Tryz.prog wr = .ok (.string (foldS s)) wr := by
        have h := run_convert_bytes_back (P := Tryz.prog) wr 22 9 5 ⟨w.heap.size, 0, none⟩ cap (foldL s.data.toList) Tryz.underlying22 Tryz.underlying5 Tryz.underlying9 (fun j hj => by
          rw [Lib.add_plain]; rw [Nat.zero_add]; exact hr.cell j hj)
        rw [hfl] at h
        exact h
      clear hr hlen hfl
      go_wp2
      go_ret
      exact ⟨rfl, hB⟩

end Go.Proofs.YthbjdbookiejeabGreatDoor
