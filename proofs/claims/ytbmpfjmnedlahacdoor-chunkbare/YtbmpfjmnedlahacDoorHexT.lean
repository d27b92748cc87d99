/- How a number is told in digits of the base 16: sign.HexText and what it calls. -/
import Derived.Test.YtbmpfjmnedlahacDoorNumM
import Derived.Test.YtbmpfjmnedlahacDoorByt
import Derived.WalkSpells
import Derived.WalkLawsBesides
import Derived.Laws.BitsAllLaws
import Derived.Lib.ItoaMem
import Derived.Lib.Walk
namespace Go.Proofs.YtbmpfjmnedlahacDoor
open Go.RowKit
set_option linter.unusedVariables false

theorem tz_at : (IntKind.u64.wrap (bits BinOp.and IntKind.u64 16 (IntKind.u64.wrap (-16)) * 285870213051353865) / 288230376151711744).toNat = 15 := by decide +kernel
set_option maxHeartbeats 400000 in
theorem tz64 (w : World) (hc : w.cell? ⟨3, 15, none⟩ = some (.int .u8 4)) : Calls Tryd.prog 71 #[.int .u64 16] w fun e w' => e = .returned (.int .i64 4) ∧ w' = w := by
  have hc' : w.cell? ⟨3, (IntKind.u64.wrap (bits BinOp.and IntKind.u64 16 (IntKind.u64.wrap (-16)) * 285870213051353865) / 288230376151711744).toNat, none⟩ = some (.int .u8 4) := by rw [tz_at]; exact hc
  go_enter Tryd.func71, Tryd.ntmps71
  go_wp2
  go_ret
  exact ⟨rfl, rfl⟩
theorem tz (w : World) (hc : w.cell? ⟨3, 15, none⟩ = some (.int .u8 4)) : Calls Tryd.prog 62 #[.int .u64 16] w fun e w' => e = .returned (.int .i64 4) ∧ w' = w := by
  go_enter Tryd.func62, Tryd.ntmps62
  go_wp2_with (go_at_call 71; refine (tz64 _ hc).mono ?_; rintro e w' ⟨rfl, rfl⟩)
  go_ret
  exact ⟨rfl, rfl⟩
theorem pow2 (w : World) : Calls Tryd.prog 61 #[.int .i64 16] w fun e w' => e = .returned (.bool true) ∧ w' = w := by
  have hb : bits BinOp.and IntKind.i64 16 15 = 0 := by decide
  go_enter Tryd.func61, Tryd.ntmps61
  go_wp2
  go_ret
  exact ⟨rfl, rfl⟩

/-- A digit of the base 16; the numeral. -/
def hexD (d : Nat) : UInt8 := if d < 10 then (48 + d).toUInt8 else (87 + d).toUInt8
def hexGo : Nat → Nat → List UInt8 → List UInt8
  | 0, _, acc => acc
  | f + 1, u, acc => if u < 16 then hexD u :: acc else hexGo f (u / 16) (hexD (u % 16) :: acc)
def hexT (n : Nat) : List UInt8 := hexGo 17 n []

/-- The row of 65 bytes, its last ones told. -/
def row65 (acc : List UInt8) : Array Value := (List.replicate (65 - acc.length) (Value.int .u8 0) ++ acc.map bv).toArray
theorem row65_nil : row65 [] = #[.int .u8 0, .int .u8 0, .int .u8 0, .int .u8 0, .int .u8 0, .int .u8 0, .int .u8 0, .int .u8 0, .int .u8 0, .int .u8 0, .int .u8 0, .int .u8 0, .int .u8 0, .int .u8 0, .int .u8 0, .int .u8 0, .int .u8 0, .int .u8 0, .int .u8 0, .int .u8 0, .int .u8 0, .int .u8 0, .int .u8 0, .int .u8 0, .int .u8 0, .int .u8 0, .int .u8 0, .int .u8 0, .int .u8 0, .int .u8 0, .int .u8 0, .int .u8 0, .int .u8 0, .int .u8 0, .int .u8 0, .int .u8 0, .int .u8 0, .int .u8 0, .int .u8 0, .int .u8 0, .int .u8 0, .int .u8 0, .int .u8 0, .int .u8 0, .int .u8 0, .int .u8 0, .int .u8 0, .int .u8 0, .int .u8 0, .int .u8 0, .int .u8 0, .int .u8 0, .int .u8 0, .int .u8 0, .int .u8 0, .int .u8 0, .int .u8 0, .int .u8 0, .int .u8 0, .int .u8 0, .int .u8 0, .int .u8 0, .int .u8 0, .int .u8 0, .int .u8 0] := rfl
theorem row65_set (acc : List UInt8) (h : acc.length < 65) (b : UInt8) : (row65 acc).setIfInBounds (64 - acc.length) (bv b) = row65 (b :: acc) := by
  unfold row65
  rw [List.setIfInBounds_toArray]
  congr 1
  have e : 65 - acc.length = (64 - acc.length) + 1 := by omega
  have e2 : 65 - (b :: acc).length = 64 - acc.length := by rw [List.length_cons]; omega
  rw [e2, e, List.replicate_succ', List.append_assoc, List.set_append_right _ _ (by simp)]
  simp
theorem row65_at (acc : List UInt8) (h : acc.length ≤ 65) (j : Nat) (hj : j < acc.length) : (row65 acc)[65 - acc.length + j]? = some (bv acc[j]) := by
  unfold row65
  simp only [List.getElem?_toArray]
  rw [List.getElem?_append_right (by simp)]
  simp [hj]
theorem row65_zero (acc : List UInt8) (h : acc.length < 65) : (row65 acc)[64 - acc.length]? = some (.int .u8 0) := by
  unfold row65
  simp only [List.getElem?_toArray]
  rw [List.getElem?_append_left (by simp; omega)]
  rw [List.getElem?_replicate, if_pos (by omega)]
theorem hexD_bv (d : Nat) (h : d < 16) : bv (hexD d) = .int .u8 (if d < 10 then 48 + d else 87 + d) := by
  unfold bv hexD
  rcases Nat.lt_or_ge d 10 with c | c
  · rw [if_pos c, if_pos (by omega)]
    have : (48 + d).toUInt8.toNat = 48 + d := by simp; omega
    rw [this]; rfl
  · rw [if_neg (by omega), if_neg (by omega)]
    have : (87 + d).toUInt8.toNat = 87 + d := by simp; omega
    rw [this]; rfl

/-- The digits' own text. -/
def digS : ByteArray := ⟨#[48, 49, 50, 51, 52, 53, 54, 55, 56, 57, 97, 98, 99, 100, 101, 102, 103, 104, 105, 106, 107, 108, 109, 110, 111, 112, 113, 114, 115, 116, 117, 118, 119, 120, 121, 122]⟩
theorem dig0 (W : World) : (Instr.index 9 (.string ⟨#[48, 49, 50, 51, 52, 53, 54, 55, 56, 57, 97, 98, 99, 100, 101, 102, 103, 104, 105, 106, 107, 108, 109, 110, 111, 112, 113, 114, 115, 116, 117, 118, 119, 120, 121, 122]⟩) (.int .u64 0)).run Tryd.prog W = .ok (.int .u8 48) W := by kernel_rfl
theorem dig1 (W : World) : (Instr.index 9 (.string ⟨#[48, 49, 50, 51, 52, 53, 54, 55, 56, 57, 97, 98, 99, 100, 101, 102, 103, 104, 105, 106, 107, 108, 109, 110, 111, 112, 113, 114, 115, 116, 117, 118, 119, 120, 121, 122]⟩) (.int .u64 1)).run Tryd.prog W = .ok (.int .u8 49) W := by kernel_rfl
theorem dig2 (W : World) : (Instr.index 9 (.string ⟨#[48, 49, 50, 51, 52, 53, 54, 55, 56, 57, 97, 98, 99, 100, 101, 102, 103, 104, 105, 106, 107, 108, 109, 110, 111, 112, 113, 114, 115, 116, 117, 118, 119, 120, 121, 122]⟩) (.int .u64 2)).run Tryd.prog W = .ok (.int .u8 50) W := by kernel_rfl
theorem dig3 (W : World) : (Instr.index 9 (.string ⟨#[48, 49, 50, 51, 52, 53, 54, 55, 56, 57, 97, 98, 99, 100, 101, 102, 103, 104, 105, 106, 107, 108, 109, 110, 111, 112, 113, 114, 115, 116, 117, 118, 119, 120, 121, 122]⟩) (.int .u64 3)).run Tryd.prog W = .ok (.int .u8 51) W := by kernel_rfl
theorem dig4 (W : World) : (Instr.index 9 (.string ⟨#[48, 49, 50, 51, 52, 53, 54, 55, 56, 57, 97, 98, 99, 100, 101, 102, 103, 104, 105, 106, 107, 108, 109, 110, 111, 112, 113, 114, 115, 116, 117, 118, 119, 120, 121, 122]⟩) (.int .u64 4)).run Tryd.prog W = .ok (.int .u8 52) W := by kernel_rfl
theorem dig5 (W : World) : (Instr.index 9 (.string ⟨#[48, 49, 50, 51, 52, 53, 54, 55, 56, 57, 97, 98, 99, 100, 101, 102, 103, 104, 105, 106, 107, 108, 109, 110, 111, 112, 113, 114, 115, 116, 117, 118, 119, 120, 121, 122]⟩) (.int .u64 5)).run Tryd.prog W = .ok (.int .u8 53) W := by kernel_rfl
theorem dig6 (W : World) : (Instr.index 9 (.string ⟨#[48, 49, 50, 51, 52, 53, 54, 55, 56, 57, 97, 98, 99, 100, 101, 102, 103, 104, 105, 106, 107, 108, 109, 110, 111, 112, 113, 114, 115, 116, 117, 118, 119, 120, 121, 122]⟩) (.int .u64 6)).run Tryd.prog W = .ok (.int .u8 54) W := by kernel_rfl
theorem dig7 (W : World) : (Instr.index 9 (.string ⟨#[48, 49, 50, 51, 52, 53, 54, 55, 56, 57, 97, 98, 99, 100, 101, 102, 103, 104, 105, 106, 107, 108, 109, 110, 111, 112, 113, 114, 115, 116, 117, 118, 119, 120, 121, 122]⟩) (.int .u64 7)).run Tryd.prog W = .ok (.int .u8 55) W := by kernel_rfl
theorem dig8 (W : World) : (Instr.index 9 (.string ⟨#[48, 49, 50, 51, 52, 53, 54, 55, 56, 57, 97, 98, 99, 100, 101, 102, 103, 104, 105, 106, 107, 108, 109, 110, 111, 112, 113, 114, 115, 116, 117, 118, 119, 120, 121, 122]⟩) (.int .u64 8)).run Tryd.prog W = .ok (.int .u8 56) W := by kernel_rfl
theorem dig9 (W : World) : (Instr.index 9 (.string ⟨#[48, 49, 50, 51, 52, 53, 54, 55, 56, 57, 97, 98, 99, 100, 101, 102, 103, 104, 105, 106, 107, 108, 109, 110, 111, 112, 113, 114, 115, 116, 117, 118, 119, 120, 121, 122]⟩) (.int .u64 9)).run Tryd.prog W = .ok (.int .u8 57) W := by kernel_rfl
theorem dig10 (W : World) : (Instr.index 9 (.string ⟨#[48, 49, 50, 51, 52, 53, 54, 55, 56, 57, 97, 98, 99, 100, 101, 102, 103, 104, 105, 106, 107, 108, 109, 110, 111, 112, 113, 114, 115, 116, 117, 118, 119, 120, 121, 122]⟩) (.int .u64 10)).run Tryd.prog W = .ok (.int .u8 97) W := by kernel_rfl
theorem dig11 (W : World) : (Instr.index 9 (.string ⟨#[48, 49, 50, 51, 52, 53, 54, 55, 56, 57, 97, 98, 99, 100, 101, 102, 103, 104, 105, 106, 107, 108, 109, 110, 111, 112, 113, 114, 115, 116, 117, 118, 119, 120, 121, 122]⟩) (.int .u64 11)).run Tryd.prog W = .ok (.int .u8 98) W := by kernel_rfl
theorem dig12 (W : World) : (Instr.index 9 (.string ⟨#[48, 49, 50, 51, 52, 53, 54, 55, 56, 57, 97, 98, 99, 100, 101, 102, 103, 104, 105, 106, 107, 108, 109, 110, 111, 112, 113, 114, 115, 116, 117, 118, 119, 120, 121, 122]⟩) (.int .u64 12)).run Tryd.prog W = .ok (.int .u8 99) W := by kernel_rfl
theorem dig13 (W : World) : (Instr.index 9 (.string ⟨#[48, 49, 50, 51, 52, 53, 54, 55, 56, 57, 97, 98, 99, 100, 101, 102, 103, 104, 105, 106, 107, 108, 109, 110, 111, 112, 113, 114, 115, 116, 117, 118, 119, 120, 121, 122]⟩) (.int .u64 13)).run Tryd.prog W = .ok (.int .u8 100) W := by kernel_rfl
theorem dig14 (W : World) : (Instr.index 9 (.string ⟨#[48, 49, 50, 51, 52, 53, 54, 55, 56, 57, 97, 98, 99, 100, 101, 102, 103, 104, 105, 106, 107, 108, 109, 110, 111, 112, 113, 114, 115, 116, 117, 118, 119, 120, 121, 122]⟩) (.int .u64 14)).run Tryd.prog W = .ok (.int .u8 101) W := by kernel_rfl
theorem dig15 (W : World) : (Instr.index 9 (.string ⟨#[48, 49, 50, 51, 52, 53, 54, 55, 56, 57, 97, 98, 99, 100, 101, 102, 103, 104, 105, 106, 107, 108, 109, 110, 111, 112, 113, 114, 115, 116, 117, 118, 119, 120, 121, 122]⟩) (.int .u64 15)).run Tryd.prog W = .ok (.int .u8 102) W := by kernel_rfl
theorem dig_at (d : Nat) (h : d < 16) (W : World) : (Instr.index 9 (.string ⟨#[48, 49, 50, 51, 52, 53, 54, 55, 56, 57, 97, 98, 99, 100, 101, 102, 103, 104, 105, 106, 107, 108, 109, 110, 111, 112, 113, 114, 115, 116, 117, 118, 119, 120, 121, 122]⟩) (.int .u64 (d : Int))).run Tryd.prog W = .ok (.int .u8 ((hexD d).toNat : Int)) W := by
  have h16 : d = 0 ∨ d = 1 ∨ d = 2 ∨ d = 3 ∨ d = 4 ∨ d = 5 ∨ d = 6 ∨ d = 7 ∨ d = 8 ∨ d = 9 ∨ d = 10 ∨ d = 11 ∨ d = 12 ∨ d = 13 ∨ d = 14 ∨ d = 15 := by omega
  rcases h16 with rfl | rfl | rfl | rfl | rfl | rfl | rfl | rfl | rfl | rfl | rfl | rfl | rfl | rfl | rfl | rfl
  · exact dig0 W
  · exact dig1 W
  · exact dig2 W
  · exact dig3 W
  · exact dig4 W
  · exact dig5 W
  · exact dig6 W
  · exact dig7 W
  · exact dig8 W
  · exact dig9 W
  · exact dig10 W
  · exact dig11 W
  · exact dig12 W
  · exact dig13 W
  · exact dig14 W
  · exact dig15 W
theorem and15 (u : Nat) (h : u < 9223372036854775808) : bits BinOp.and IntKind.u64 (u : Int) 15 = ((u % 16 : Nat) : Int) := by
  have k := bits_mask .u64 63 (by decide) (fun n h0 h1 => by rw [IntKind.wrap_u64]; omega) 4 (by decide) (u : Int) (by omega) (by omega)
  have e : ((2 : Int) ^ 4 - 1) = 15 := by decide
  have e2 : ((2 : Int) ^ 4) = 16 := by decide
  rw [e, e2] at k
  rw [k]; omega
theorem zero_row : Tryd.zeroCells86 = row65 [] := by kernel_rfl
theorem hexGo_step (f u : Nat) (acc : List UInt8) (h : ¬ u < 16) : hexGo (f + 1) u acc = hexGo f (u / 16) (hexD (u % 16) :: acc) := by rw [hexGo, if_neg h]
theorem hexGo_end (f u : Nat) (acc : List UInt8) (h : u < 16) : hexGo (f + 1) u acc = hexD u :: acc := by rw [hexGo, if_pos h]
theorem blk_set {w : World} {b i : Nat} {c : Array Value} {t : TypeId} (h : w.heap[b]? = some (.cells c t)) (v : Value) : (w.setCell ⟨b, i, none⟩ v).heap[b]? = some (.cells (c.setIfInBounds i v) t) := by
  simp [World.setCell, Array.getElem?_modify, h]
theorem blk_cell {w : World} {b i : Nat} {c : Array Value} {t : TypeId} {v : Value} (h : w.heap[b]? = some (.cells c t)) (hv : c[i]? = some v) : w.cell? ⟨b, i, none⟩ = some v := by
  simp [World.cell?, h, hv]
theorem blk_z {w : World} {b : Nat} {c : Array Value} {t : TypeId} (h : w.heap[b]? = some (.cells c t)) (i : Nat) : w.frozen? ⟨b, i, none⟩ = false := by
  simp [World.frozen?, h]
theorem blk_new (w : World) (o : Obj) : (w.alloc o).heap[w.heap.size]? = some o := by
  show (w.heap.push o)[w.heap.size]? = _; simp

set_option maxRecDepth 100000 in
set_option maxHeartbeats 2000000 in
theorem formatBits16 (n : Nat) (hn : n < 9223372036854775808) (w : World) (hc : w.cell? ⟨3, 15, none⟩ = some (.int .u8 4)) (h5 : 3 < w.heap.size) :
    Calls Tryd.prog 44 #[.slice none 0 0, .int .u64 n, .int .i64 16, .bool false, .bool false] w fun e w' => e = .returned (.tuple #[.slice none 0 0, .string ⟨(hexT n).toArray⟩]) ∧ Below w.heap.size w w' := by
  have hc1 : ∀ o, (w.alloc o).cell? ⟨3, 15, none⟩ = some (.int .u8 4) := fun o => by rw [World.cell?_alloc_past _ _ _ h5]; exact hc
  go_enter Tryd.func44, Tryd.ntmps44
  go_wp2_with fail
  refine (pow2 _).mono ?_
  rintro e w1 ⟨rfl, rfl⟩
  go_wp2_with fail
  refine (tz _ (hc1 _)).mono ?_
  rintro e w1 ⟨rfl, rfl⟩
  have hrow : (w.alloc (.cells Tryd.zeroCells86 86)).heap[w.heap.size]? = some (.cells (row65 []) 86) := by rw [blk_new, zero_row]
  have HB : Below w.heap.size w (w.alloc (.cells Tryd.zeroCells86 86)) := (Below.refl _ _).alloc (Nat.le_refl _) _
  clear hc hc1 h5
  go_wp2_with fail
  go_loopw [1, 13] (fun vu vi wr => ∃ (f u m : Nat) (acc : List UInt8), vu = .int .u64 u ∧ vi = .int .i64 m ∧ m + acc.length = 65 ∧ f + acc.length = 16 ∧ u < 9223372036854775808 ∧ Hid (u < 16 ^ (f + 1)) ∧ Hid (hexGo (f + 1) u acc = hexT n) ∧ wr.heap[w.heap.size]? = some (.cells (row65 acc) 86) ∧ Below w.heap.size w wr) (fun vu _ _ => (intOf vu).toNat)
  case atStart => exact ⟨16, n, 65, [], rfl, rfl, rfl, rfl, hn, Nat.lt_of_lt_of_le hn (by decide), rfl, hrow, HB⟩
  case round =>
    obtain ⟨f, u, m, acc, rfl, rfl, hm, hf, hu, hfu, hg, hr, hB⟩ := hrel
    clear hrow HB
    obtain ⟨m', rfl⟩ : ∃ m', m = m' + 1 := ⟨m - 1, by omega⟩
    have hcell : wr.cell? ⟨w.heap.size, m', none⟩ = some (.int .u8 0) := by
      have k := row65_zero acc (by omega)
      rw [show 64 - acc.length = m' by omega] at k
      exact blk_cell hr k
    have hz := blk_z hr m'
    by_cases hge : (16 : Int) ≤ (u : Int)
    · have hm15 := and15 u hu
      obtain ⟨f', rfl⟩ : ∃ f', f = f' + 1 := by
        cases f with
        | zero => have h := hfu.out; simp at h; omega
        | succ f' => exact ⟨f', rfl⟩
      have hd : u % 16 < 16 := Nat.mod_lt _ (by decide)
      have hdig := dig_at (u % 16) hd
      generalize hdd : u % 16 = d at *
      have HD : Hid (u % 16 = d) := hdd
      clear hdd
      go_wp2
      go_roundw
      case rel =>
        refine ⟨f', u / 16, m', hexD d :: acc, by go_num, rfl, by rw [List.length_cons]; omega, by rw [List.length_cons]; omega, by omega, ?_, ?_, ?_, hB.setCell (Nat.le_refl _) _⟩
        · have h := hfu.out
          rw [Nat.pow_succ, Nat.mul_comm] at h
          exact Nat.div_lt_of_lt_mul h
        · have h := hg.out
          rw [hexGo_step _ _ _ (by omega), HD.out] at h
          exact h
        · have k := blk_set (i := m') hr (bv (hexD d))
          rw [← show 64 - acc.length = m' by omega, row65_set acc (by omega)] at k
          rw [show m' = 64 - acc.length by omega]
          exact k
      case measure => simp [intOf]; omega
    · have hul : u < 16 := by omega
      have hdig := dig_at u hul
      have hg2 := hg.out
      rw [hexGo_end f u acc hul] at hg2
      have HG : Hid (hexD u :: acc = hexT n) := hg2
      clear hg2
      have hr2 := blk_set (i := m') hr (bv (hexD u))
      rw [show m' = 64 - acc.length by omega, row65_set acc (by omega)] at hr2
      rw [← show m' = 64 - acc.length by omega] at hr2
      have hcv : (convert 25 9 (.slice (some ⟨w.heap.size, m', none⟩) (65 - m') (65 - m'))).run Tryd.prog (wr.setCell ⟨w.heap.size, m', none⟩ (.int .u8 ((hexD u).toNat : Int))) = .ok (.string ⟨(hexT n).toArray⟩) (wr.setCell ⟨w.heap.size, m', none⟩ (.int .u8 ((hexD u).toNat : Int))) := by
        have h := run_convert_bytes_back (P := Tryd.prog) (wr.setCell ⟨w.heap.size, m', none⟩ (bv (hexD u))) 25 9 5 ⟨w.heap.size, m', none⟩ (65 - m') (hexD u :: acc) Tryd.underlying25 Tryd.underlying5 Tryd.underlying9 (fun j hj => by
          rw [Lib.add_plain]
          have k := row65_at (hexD u :: acc) (by rw [List.length_cons]; omega) j hj
          rw [show 65 - (hexD u :: acc).length = m' by rw [List.length_cons]; omega] at k
          exact blk_cell hr2 k)
        rw [show (hexD u :: acc).length = 65 - m' by rw [List.length_cons]; omega, HG.out] at h
        exact h
      have hal : Tryd.prog.arrayLen 86 = 65 := by kernel_rfl
      have hsl : ∀ W, (Instr.sliceAt 86 (.pointer (some ⟨w.heap.size, 0, none⟩)) (some (.int .i64 (m' : Int))) none none).run Tryd.prog W = .ok (.slice (some ⟨w.heap.size, m', none⟩) (65 - m') (65 - m')) W := fun W => by
        rw [run_sliceAt_array_l W 86 ⟨w.heap.size, 0, none⟩ (by simp [Program.arrayLen, Program.elem, Tryd.underlying86]) .i64 (m' : Int) (by omega) (by rw [hal]; omega)]
        rw [hal]
        go_simp
        omega
      clear hal
      clear hr2
      go_wp2
      go_ret2
      exact ⟨rfl, hB.setCell (Nat.le_refl _) _⟩

theorem formatInt16 (n : Nat) (hn : n < 9223372036854775808) (w : World) (hc : w.cell? ⟨3, 15, none⟩ = some (.int .u8 4)) (h5 : 3 < w.heap.size) :
    Calls Tryd.prog 26 #[.int .i64 n, .int .i64 16] w fun e w' => e = .returned (.string ⟨(hexT n).toArray⟩) ∧ Below w.heap.size w w' := by
  have h0 : ¬ (n : Int) < 0 := by omega
  have hn' : (n : Int) < 9223372036854775808 := by omega
  go_enter Tryd.func26, Tryd.ntmps26
  go_wp2_with fail
  refine (formatBits16 n hn _ hc h5).mono ?_
  rintro e w1 ⟨rfl, hB⟩
  go_wp2
  go_ret
  exact ⟨rfl, hB⟩
theorem sformatInt16 (n : Nat) (hn : n < 9223372036854775808) (w : World) (hc : w.cell? ⟨3, 15, none⟩ = some (.int .u8 4)) (h5 : 3 < w.heap.size) :
    Calls Tryd.prog 18 #[.int .i64 n, .int .i64 16] w fun e w' => e = .returned (.string ⟨(hexT n).toArray⟩) ∧ Below w.heap.size w w' := by
  go_enter Tryd.func18, Tryd.ntmps18
  go_wp2_with fail
  refine (formatInt16 n hn _ hc h5).mono ?_
  rintro e w1 ⟨rfl, hB⟩
  go_wp2
  go_ret
  exact ⟨rfl, hB⟩
theorem hexText_any (n : Int) (hn : n < 9223372036854775808) (w : World) (hc : w.cell? ⟨3, 15, none⟩ = some (.int .u8 4)) (h5 : 3 < w.heap.size) :
    Calls Tryd.prog 13 #[.int .i64 n] w fun e w' => e = .returned (.string ⟨(hexT n.toNat).toArray⟩) ∧ Below w.heap.size w w' := by
  rcases Int.lt_or_le n 0 with c | c
  · rw [show n.toNat = 0 by omega]
    go_enter Tryd.func13, Tryd.ntmps13
    go_wp2_with fail
    rw [show max n 0 = ((0 : Nat) : Int) by omega]
    refine (sformatInt16 0 (by decide) _ hc h5).mono ?_
    rintro e w1 ⟨rfl, hB⟩
    go_wp2
    go_ret
    exact ⟨rfl, hB⟩
  · obtain ⟨k, rfl⟩ := Int.eq_ofNat_of_zero_le c
    rw [Int.toNat_natCast]
    go_enter Tryd.func13, Tryd.ntmps13
    go_wp2_with fail
    refine (sformatInt16 k (by omega) _ hc h5).mono ?_
    rintro e w1 ⟨rfl, hB⟩
    go_wp2
    go_ret
    exact ⟨rfl, hB⟩
end Go.Proofs.YtbmpfjmnedlahacDoor
