/- Texts that the proof leans on, one behind the other: HexT ChkF ChkJ -/
import Derived.Test.YtkdnckkdofoaoaaGreatDoorKb
import Derived.WalkSpells
import Derived.WalkLawsBesides
import Derived.Laws.BitsAllLaws
import Derived.Lib.ItoaMem
import Derived.Lib.Walk
import Derived.Lib.LaidTab
import Derived.LaidSub
import Derived.MakeChecks
import Derived.Test.YtkdnckkdofoaoaaGreatDoorKe
/- How a number is told in digits of the base 16: sign.HexText and what it calls. -/
namespace Go.Proofs.YtkdnckkdofoaoaaGreatDoor
open Go.RowKit
set_option linter.unusedVariables false

theorem tz_at : (IntKind.u64.wrap (bits BinOp.and IntKind.u64 16 (IntKind.u64.wrap (-16)) * 285870213051353865) / 288230376151711744).toNat = 15 := by decide +kernel
set_option maxHeartbeats 400000 in
theorem tz64 (w : World) (hc : w.cell? ⟨5, 15, none⟩ = some (.int .u8 4)) : Calls Tryz.prog 206 #[.int .u64 16] w fun e w' => e = .returned (.int .i64 4) ∧ w' = w := by
  have hc' : w.cell? ⟨5, (IntKind.u64.wrap (bits BinOp.and IntKind.u64 16 (IntKind.u64.wrap (-16)) * 285870213051353865) / 288230376151711744).toNat, none⟩ = some (.int .u8 4) := by rw [tz_at]; exact hc
  go_enter Tryz.func206, Tryz.ntmps206
  go_wp2
  go_ret
  exact ⟨rfl, rfl⟩
theorem tz (w : World) (hc : w.cell? ⟨5, 15, none⟩ = some (.int .u8 4)) : Calls Tryz.prog 192 #[.int .u64 16] w fun e w' => e = .returned (.int .i64 4) ∧ w' = w := by
  go_enter Tryz.func192, Tryz.ntmps192
  go_wp2_with (go_at_call 206; refine (tz64 _ hc).mono ?_; rintro e w' ⟨rfl, rfl⟩)
  go_ret
  exact ⟨rfl, rfl⟩
theorem pow2 (w : World) : Calls Tryz.prog 191 #[.int .i64 16] w fun e w' => e = .returned (.bool true) ∧ w' = w := by
  have hb : bits BinOp.and IntKind.i64 16 15 = 0 := by decide
  go_enter Tryz.func191, Tryz.ntmps191
  go_wp2
  go_ret
  exact ⟨rfl, rfl⟩

/-- A digit of the base 16; the numeral. -/
def hexD (d : Nat) : UInt8 := if d < 10 then (48 + d).toUInt8 else (87 + d).toUInt8
def hexGo : Nat → Nat → List UInt8 → List UInt8
  | 0, _, acc => acc
  | f + 1, u, acc => if u < 16 then hexD u :: acc else hexGo f (u / 16) (hexD (u % 16) :: acc)
def hexT (n : Nat) : List UInt8 := hexGo 17 n []

/-- The row of 65 bytes, its last ones told. -/
def row65 (acc : List UInt8) : Array Value := (List.replicate (65 - acc.length) (Value.int .u8 0) ++ acc.map bv).toArray
theorem row65_nil : row65 [] = #[.int .u8 0, .int .u8 0, .int .u8 0, .int .u8 0, .int .u8 0, .int .u8 0, .int .u8 0, .int .u8 0, .int .u8 0, .int .u8 0, .int .u8 0, .int .u8 0, .int .u8 0, .int .u8 0, .int .u8 0, .int .u8 0, .int .u8 0, .int .u8 0, .int .u8 0, .int .u8 0, .int .u8 0, .int .u8 0, .int .u8 0, .int .u8 0, .int .u8 0, .int .u8 0, .int .u8 0, .int .u8 0, .int .u8 0, .int .u8 0, .int .u8 0, .int .u8 0, .int .u8 0, .int .u8 0, .int .u8 0, .int .u8 0, .int .u8 0, .int .u8 0, .int .u8 0, .int .u8 0, .int .u8 0, .int .u8 0, .int .u8 0, .int .u8 0, .int .u8 0, .int .u8 0, .int .u8 0, .int .u8 0, .int .u8 0, .int .u8 0, .int .u8 0, .int .u8 0, .int .u8 0, .int .u8 0, .int .u8 0, .int .u8 0, .int .u8 0, .int .u8 0, .int .u8 0, .int .u8 0, .int .u8 0, .int .u8 0, .int .u8 0, .int .u8 0, .int .u8 0] := rfl
theorem row65_set (acc : List UInt8) (h : acc.length < 65) (b : UInt8) : (row65 acc).setIfInBounds (64 - acc.length) (bv b) = row65 (b :: acc) := by
  unfold row65
  rw [List.setIfInBounds_toArray]
  congr 1
  have e : 65 - acc.length = (64 - acc.length) + 1 := by omega
  have e2 : 65 - (b :: acc).length = 64 - acc.length := by rw [List.length_cons]; omega
  rw [e2, e, List.replicate_succ', List.append_assoc, List.set_append_right _ _ (by simp)]
  simp
theorem row65_at (acc : List UInt8) (h : acc.length ≤ 65) (j : Nat) (hj : j < acc.length) : (row65 acc)[65 - acc.length + j]? = some (bv acc[j]) := by
  unfold row65
  simp only [List.getElem?_toArray]
  rw [List.getElem?_append_right (by simp)]
  simp [hj]
theorem row65_zero (acc : List UInt8) (h : acc.length < 65) : (row65 acc)[64 - acc.length]? = some (.int .u8 0) := by
  unfold row65
  simp only [List.getElem?_toArray]
  rw [List.getElem?_append_left (by simp; omega)]
  rw [List.getElem?_replicate, if_pos (by omega)]
theorem hexD_bv (d : Nat) (h : d < 16) : bv (hexD d) = .int .u8 (if d < 10 then 48 + d else 87 + d) := by
  unfold bv hexD
  rcases Nat.lt_or_ge d 10 with c | c
  · rw [if_pos c, if_pos (by omega)]
    have : (48 + d).toUInt8.toNat = 48 + d := by simp; omega
    rw [this]; rfl
  · rw [if_neg (by omega), if_neg (by omega)]
    have : (87 + d).toUInt8.toNat = 87 + d := by simp; omega
    rw [this]; rfl

/-- The digits' own text. -/
def digS : ByteArray := ⟨#[48, 49, 50, 51, 52, 53, 54, 55, 56, 57, 97, 98, 99, 100, 101, 102, 103, 104, 105, 106, 107, 108, 109, 110, 111, 112, 113, 114, 115, 116, 117, 118, 119, 120, 121, 122]⟩
theorem dig0 (W : World) : (Instr.index 9 (.string ⟨#[48, 49, 50, 51, 52, 53, 54, 55, 56, 57, 97, 98, 99, 100, 101, 102, 103, 104, 105, 106, 107, 108, 109, 110, 111, 112, 113, 114, 115, 116, 117, 118, 119, 120, 121, 122]⟩) (.int .u64 0)).run Tryz.prog W = .ok (.int .u8 48) W := by kernel_rfl
theorem dig1 (W : World) : (Instr.index 9 (.string ⟨#[48, 49, 50, 51, 52, 53, 54, 55, 56, 57, 97, 98, 99, 100, 101, 102, 103, 104, 105, 106, 107, 108, 109, 110, 111, 112, 113, 114, 115, 116, 117, 118, 119, 120, 121, 122]⟩) (.int .u64 1)).run Tryz.prog W = .ok (.int .u8 49) W := by kernel_rfl
theorem dig2 (W : World) : (Instr.index 9 (.string ⟨#[48, 49, 50, 51, 52, 53, 54, 55, 56, 57, 97, 98, 99, 100, 101, 102, 103, 104, 105, 106, 107, 108, 109, 110, 111, 112, 113, 114, 115, 116, 117, 118, 119, 120, 121, 122]⟩) (.int .u64 2)).run Tryz.prog W = .ok (.int .u8 50) W := by kernel_rfl
theorem dig3 (W : World) : (Instr.index 9 (.string ⟨#[48, 49, 50, 51, 52, 53, 54, 55, 56, 57, 97, 98, 99, 100, 101, 102, 103, 104, 105, 106, 107, 108, 109, 110, 111, 112, 113, 114, 115, 116, 117, 118, 119, 120, 121, 122]⟩) (.int .u64 3)).run Tryz.prog W = .ok (.int .u8 51) W := by kernel_rfl
theorem dig4 (W : World) : (Instr.index 9 (.string ⟨#[48, 49, 50, 51, 52, 53, 54, 55, 56, 57, 97, 98, 99, 100, 101, 102, 103, 104, 105, 106, 107, 108, 109, 110, 111, 112, 113, 114, 115, 116, 117, 118, 119, 120, 121, 122]⟩) (.int .u64 4)).run Tryz.prog W = .ok (.int .u8 52) W := by kernel_rfl
theorem dig5 (W : World) : (Instr.index 9 (.string ⟨#[48, 49, 50, 51, 52, 53, 54, 55, 56, 57, 97, 98, 99, 100, 101, 102, 103, 104, 105, 106, 107, 108, 109, 110, 111, 112, 113, 114, 115, 116, 117, 118, 119, 120, 121, 122]⟩) (.int .u64 5)).run Tryz.prog W = .ok (.int .u8 53) W := by kernel_rfl
theorem dig6 (W : World) : (Instr.index 9 (.string ⟨#[48, 49, 50, 51, 52, 53, 54, 55, 56, 57, 97, 98, 99, 100, 101, 102, 103, 104, 105, 106, 107, 108, 109, 110, 111, 112, 113, 114, 115, 116, 117, 118, 119, 120, 121, 122]⟩) (.int .u64 6)).run Tryz.prog W = .ok (.int .u8 54) W := by kernel_rfl
theorem dig7 (W : World) : (Instr.index 9 (.string ⟨#[48, 49, 50, 51, 52, 53, 54, 55, 56, 57, 97, 98, 99, 100, 101, 102, 103, 104, 105, 106, 107, 108, 109, 110, 111, 112, 113, 114, 115, 116, 117, 118, 119, 120, 121, 122]⟩) (.int .u64 7)).run Tryz.prog W = .ok (.int .u8 55) W := by kernel_rfl
theorem dig8 (W : World) : (Instr.index 9 (.string ⟨#[48, 49, 50, 51, 52, 53, 54, 55, 56, 57, 97, 98, 99, 100, 101, 102, 103, 104, 105, 106, 107, 108, 109, 110, 111, 112, 113, 114, 115, 116, 117, 118, 119, 120, 121, 122]⟩) (.int .u64 8)).run Tryz.prog W = .ok (.int .u8 56) W := by kernel_rfl
theorem dig9 (W : World) : (Instr.index 9 (.string ⟨#[48, 49, 50, 51, 52, 53, 54, 55, 56, 57, 97, 98, 99, 100, 101, 102, 103, 104, 105, 106, 107, 108, 109, 110, 111, 112, 113, 114, 115, 116, 117, 118, 119, 120, 121, 122]⟩) (.int .u64 9)).run Tryz.prog W = .ok (.int .u8 57) W := by kernel_rfl
theorem dig10 (W : World) : (Instr.index 9 (.string ⟨#[48, 49, 50, 51, 52, 53, 54, 55, 56, 57, 97, 98, 99, 100, 101, 102, 103, 104, 105, 106, 107, 108, 109, 110, 111, 112, 113, 114, 115, 116, 117, 118, 119, 120, 121, 122]⟩) (.int .u64 10)).run Tryz.prog W = .ok (.int .u8 97) W := by kernel_rfl
theorem dig11 (W : World) : (Instr.index 9 (.string ⟨#[48, 49, 50, 51, 52, 53, 54, 55, 56, 57, 97, 98, 99, 100, 101, 102, 103, 104, 105, 106, 107, 108, 109, 110, 111, 112, 113, 114, 115, 116, 117, 118, 119, 120, 121, 122]⟩) (.int .u64 11)).run Tryz.prog W = .ok (.int .u8 98) W := by kernel_rfl
theorem dig12 (W : World) : (Instr.index 9 (.string ⟨#[48, 49, 50, 51, 52, 53, 54, 55, 56, 57, 97, 98, 99, 100, 101, 102, 103, 104, 105, 106, 107, 108, 109, 110, 111, 112, 113, 114, 115, 116, 117, 118, 119, 120, 121, 122]⟩) (.int .u64 12)).run Tryz.prog W = .ok (.int .u8 99) W := by kernel_rfl
theorem dig13 (W : World) : (Instr.index 9 (.string ⟨#[48, 49, 50, 51, 52, 53, 54, 55, 56, 57, 97, 98, 99, 100, 101, 102, 103, 104, 105, 106, 107, 108, 109, 110, 111, 112, 113, 114, 115, 116, 117, 118, 119, 120, 121, 122]⟩) (.int .u64 13)).run Tryz.prog W = .ok (.int .u8 100) W := by kernel_rfl
theorem dig14 (W : World) : (Instr.index 9 (.string ⟨#[48, 49, 50, 51, 52, 53, 54, 55, 56, 57, 97, 98, 99, 100, 101, 102, 103, 104, 105, 106, 107, 108, 109, 110, 111, 112, 113, 114, 115, 116, 117, 118, 119, 120, 121, 122]⟩) (.int .u64 14)).run Tryz.prog W = .ok (.int .u8 101) W := by kernel_rfl
theorem dig15 (W : World) : (Instr.index 9 (.string ⟨#[48, 49, 50, 51, 52, 53, 54, 55, 56, 57, 97, 98, 99, 100, 101, 102, 103, 104, 105, 106, 107, 108, 109, 110, 111, 112, 113, 114, 115, 116, 117, 118, 119, 120, 121, 122]⟩) (.int .u64 15)).run Tryz.prog W = .ok (.int .u8 102) W := by kernel_rfl
theorem dig_at (d : Nat) (h : d < 16) (W : World) : (Instr.index 9 (.string ⟨#[48, 49, 50, 51, 52, 53, 54, 55, 56, 57, 97, 98, 99, 100, 101, 102, 103, 104, 105, 106, 107, 108, 109, 110, 111, 112, 113, 114, 115, 116, 117, 118, 119, 120, 121, 122]⟩) (.int .u64 (d : Int))).run Tryz.prog W = .ok (.int .u8 ((hexD d).toNat : Int)) W := by
  have h16 : d = 0 ∨ d = 1 ∨ d = 2 ∨ d = 3 ∨ d = 4 ∨ d = 5 ∨ d = 6 ∨ d = 7 ∨ d = 8 ∨ d = 9 ∨ d = 10 ∨ d = 11 ∨ d = 12 ∨ d = 13 ∨ d = 14 ∨ d = 15 := by omega
  rcases h16 with rfl | rfl | rfl | rfl | rfl | rfl | rfl | rfl | rfl | rfl | rfl | rfl | rfl | rfl | rfl | rfl
  · exact dig0 W
  · exact dig1 W
  · exact dig2 W
  · exact dig3 W
  · exact dig4 W
  · exact dig5 W
  · exact dig6 W
  · exact dig7 W
  · exact dig8 W
  · exact dig9 W
  · exact dig10 W
  · exact dig11 W
  · exact dig12 W
  · exact dig13 W
  · exact dig14 W
  · exact dig15 W
theorem and15 (u : Nat) (h : u < 9223372036854775808) : bits BinOp.and IntKind.u64 (u : Int) 15 = ((u % 16 : Nat) : Int) := by
  have k := bits_mask .u64 63 (by decide) (fun n h0 h1 => by rw [IntKind.wrap_u64]; omega) 4 (by decide) (u : Int) (by omega) (by omega)
  have e : ((2 : Int) ^ 4 - 1) = 15 := by decide
  have e2 : ((2 : Int) ^ 4) = 16 := by decide
  rw [e, e2] at k
  rw [k]; omega
theorem zero_row : Tryz.zeroCells182 = row65 [] := by kernel_rfl
theorem hexGo_step (f u : Nat) (acc : List UInt8) (h : ¬ u < 16) : hexGo (f + 1) u acc = hexGo f (u / 16) (hexD (u % 16) :: acc) := by rw [hexGo, if_neg h]
theorem hexGo_end (f u : Nat) (acc : List UInt8) (h : u < 16) : hexGo (f + 1) u acc = hexD u :: acc := by rw [hexGo, if_pos h]
theorem blk_set {w : World} {b i : Nat} {c : Array Value} {t : TypeId} (h : w.heap[b]? = some (.cells c t)) (v : Value) : (w.setCell ⟨b, i, none⟩ v).heap[b]? = some (.cells (c.setIfInBounds i v) t) := by
  simp [World.setCell, Array.getElem?_modify, h]
theorem blk_cell {w : World} {b i : Nat} {c : Array Value} {t : TypeId} {v : Value} (h : w.heap[b]? = some (.cells c t)) (hv : c[i]? = some v) : w.cell? ⟨b, i, none⟩ = some v := by
  simp [World.cell?, h, hv]
theorem blk_z {w : World} {b : Nat} {c : Array Value} {t : TypeId} (h : w.heap[b]? = some (.cells c t)) (i : Nat) : w.frozen? ⟨b, i, none⟩ = false := by
  simp [World.frozen?, h]
theorem blk_new (w : World) (o : Obj) : (w.alloc o).heap[w.heap.size]? = some o := by
  show (w.heap.push o)[w.heap.size]? = _; simp

set_option maxRecDepth 100000 in
set_option maxHeartbeats 2000000 in
theorem formatBits16 (n : Nat) (hn : n < 9223372036854775808) (w : World) (hc : w.cell? ⟨5, 15, none⟩ = some (.int .u8 4)) (h5 : 5 < w.heap.size) :
    Calls Tryz.prog 165 #[.slice none 0 0, .int .u64 n, .int .i64 16, .bool false, .bool false] w fun e w' => e = .returned (.tuple #[.slice none 0 0, .string ⟨(hexT n).toArray⟩]) ∧ Below w.heap.size w w' := by
  have hc1 : ∀ o, (w.alloc o).cell? ⟨5, 15, none⟩ = some (.int .u8 4) := fun o => by rw [World.cell?_alloc_past _ _ _ h5]; exact hc
  go_enter Tryz.func165, Tryz.ntmps165
  go_wp2_with fail
  refine (pow2 _).mono ?_
  rintro e w1 ⟨rfl, rfl⟩
  go_wp2_with fail
  refine (tz _ (hc1 _)).mono ?_
  rintro e w1 ⟨rfl, rfl⟩
  have hrow : (w.alloc (.cells Tryz.zeroCells182 182)).heap[w.heap.size]? = some (.cells (row65 []) 182) := by rw [blk_new, zero_row]
  have HB : Below w.heap.size w (w.alloc (.cells Tryz.zeroCells182 182)) := (Below.refl _ _).alloc (Nat.le_refl _) _
  clear hc hc1 h5
  go_wp2_with fail
  go_loopw [1, 13] (fun vu vi wr => ∃ (f u m : Nat) (acc : List UInt8), vu = .int .u64 u ∧ vi = .int .i64 m ∧ m + acc.length = 65 ∧ f + acc.length = 16 ∧ u < 9223372036854775808 ∧ Hid (u < 16 ^ (f + 1)) ∧ Hid (hexGo (f + 1) u acc = hexT n) ∧ wr.heap[w.heap.size]? = some (.cells (row65 acc) 182) ∧ Below w.heap.size w wr) (fun vu _ _ => (intOf vu).toNat)
  case atStart => exact ⟨16, n, 65, [], rfl, rfl, rfl, rfl, hn, Nat.lt_of_lt_of_le hn (by decide), rfl, hrow, HB⟩
  case round =>
    obtain ⟨f, u, m, acc, rfl, rfl, hm, hf, hu, hfu, hg, hr, hB⟩ := hrel
    clear hrow HB
    obtain ⟨m', rfl⟩ : ∃ m', m = m' + 1 := ⟨m - 1, by omega⟩
    have hcell : wr.cell? ⟨w.heap.size, m', none⟩ = some (.int .u8 0) := by
      have k := row65_zero acc (by omega)
      rw [show 64 - acc.length = m' by omega] at k
      exact blk_cell hr k
    have hz := blk_z hr m'
    by_cases hge : (16 : Int) ≤ (u : Int)
    · have hm15 := and15 u hu
      obtain ⟨f', rfl⟩ : ∃ f', f = f' + 1 := by
        cases f with
        | zero => have h := hfu.out; simp at h; omega
        | succ f' => exact ⟨f', rfl⟩
      have hd : u % 16 < 16 := Nat.mod_lt _ (by decide)
      have hdig := dig_at (u % 16) hd
      generalize hdd : u % 16 = d at *
      have HD : Hid (u % 16 = d) := hdd
      clear hdd
      go_wp2
      go_roundw
      case rel =>
        refine ⟨f', u / 16, m', hexD d :: acc, by go_num, rfl, by rw [List.length_cons]; omega, by rw [List.length_cons]; omega, by omega, ?_, ?_, ?_, hB.setCell (Nat.le_refl _) _⟩
        · have h := hfu.out
          rw [Nat.pow_succ, Nat.mul_comm] at h
          exact Nat.div_lt_of_lt_mul h
        · have h := hg.out
          rw [hexGo_step _ _ _ (by omega), HD.out] at h
          exact h
        · have k := blk_set (i := m') hr (bv (hexD d))
          rw [← show 64 - acc.length = m' by omega, row65_set acc (by omega)] at k
          rw [show m' = 64 - acc.length by omega]
          exact k
      case measure => simp [intOf]; omega
    · have hul : u < 16 := by omega
      have hdig := dig_at u hul
      have hg2 := hg.out
      rw [hexGo_end f u acc hul] at hg2
      have HG : Hid (hexD u :: acc = hexT n) := hg2
      clear hg2
      have hr2 := blk_set (i := m') hr (bv (hexD u))
      rw [show m' = 64 - acc.length by omega, row65_set acc (by omega)] at hr2
      rw [← show m' = 64 - acc.length by omega] at hr2
      have hcv : (convert 22 9 (.slice (some ⟨w.heap.size, m', none⟩) (65 - m') (65 - m'))).run Tryz.prog (wr.setCell ⟨w.heap.size, m', none⟩ (.int .u8 ((hexD u).toNat : Int))) = .ok (.string ⟨(hexT n).toArray⟩) (wr.setCell ⟨w.heap.size, m', none⟩ (.int .u8 ((hexD u).toNat : Int))) := by
        have h := run_convert_bytes_back (P := Tryz.prog) (wr.setCell ⟨w.heap.size, m', none⟩ (bv (hexD u))) 22 9 5 ⟨w.heap.size, m', none⟩ (65 - m') (hexD u :: acc) Tryz.underlying22 Tryz.underlying5 Tryz.underlying9 (fun j hj => by
          rw [Lib.add_plain]
          have k := row65_at (hexD u :: acc) (by rw [List.length_cons]; omega) j hj
          rw [show 65 - (hexD u :: acc).length = m' by rw [List.length_cons]; omega] at k
          exact blk_cell hr2 k)
        rw [show (hexD u :: acc).length = 65 - m' by rw [List.length_cons]; omega, HG.out] at h
        exact h
      have hal : Tryz.prog.arrayLen 182 = 65 := by kernel_rfl
      have hsl : ∀ W, (Instr.sliceAt 182 (.pointer (some ⟨w.heap.size, 0, none⟩)) (some (.int .i64 (m' : Int))) none none).run Tryz.prog W = .ok (.slice (some ⟨w.heap.size, m', none⟩) (65 - m') (65 - m')) W := fun W => by
        rw [run_sliceAt_array_l W 182 ⟨w.heap.size, 0, none⟩ (by simp [Program.arrayLen, Program.elem, Tryz.underlying182]) .i64 (m' : Int) (by omega) (by rw [hal]; omega)]
        rw [hal]
        go_simp
        omega
      clear hal
      clear hr2
      go_wp2
      go_ret2
      exact ⟨rfl, hB.setCell (Nat.le_refl _) _⟩

theorem formatInt16 (n : Nat) (hn : n < 9223372036854775808) (w : World) (hc : w.cell? ⟨5, 15, none⟩ = some (.int .u8 4)) (h5 : 5 < w.heap.size) :
    Calls Tryz.prog 133 #[.int .i64 n, .int .i64 16] w fun e w' => e = .returned (.string ⟨(hexT n).toArray⟩) ∧ Below w.heap.size w w' := by
  have h0 : ¬ (n : Int) < 0 := by omega
  have hn' : (n : Int) < 9223372036854775808 := by omega
  go_enter Tryz.func133, Tryz.ntmps133
  go_wp2_with fail
  refine (formatBits16 n hn _ hc h5).mono ?_
  rintro e w1 ⟨rfl, hB⟩
  go_wp2
  go_ret
  exact ⟨rfl, hB⟩
theorem sformatInt16 (n : Nat) (hn : n < 9223372036854775808) (w : World) (hc : w.cell? ⟨5, 15, none⟩ = some (.int .u8 4)) (h5 : 5 < w.heap.size) :
    Calls Tryz.prog 95 #[.int .i64 n, .int .i64 16] w fun e w' => e = .returned (.string ⟨(hexT n).toArray⟩) ∧ Below w.heap.size w w' := by
  go_enter Tryz.func95, Tryz.ntmps95
  go_wp2_with fail
  refine (formatInt16 n hn _ hc h5).mono ?_
  rintro e w1 ⟨rfl, hB⟩
  go_wp2
  go_ret
  exact ⟨rfl, hB⟩
theorem hexText_any (n : Int) (hn : n < 9223372036854775808) (w : World) (hc : w.cell? ⟨5, 15, none⟩ = some (.int .u8 4)) (h5 : 5 < w.heap.size) :
    Calls Tryz.prog 52 #[.int .i64 n] w fun e w' => e = .returned (.string ⟨(hexT n.toNat).toArray⟩) ∧ Below w.heap.size w w' := by
  rcases Int.lt_or_le n 0 with c | c
  · rw [show n.toNat = 0 by omega]
    go_enter Tryz.func52, Tryz.ntmps52
    go_wp2_with fail
    rw [show max n 0 = ((0 : Nat) : Int) by omega]
    refine (sformatInt16 0 (by decide) _ hc h5).mono ?_
    rintro e w1 ⟨rfl, hB⟩
    go_wp2
    go_ret
    exact ⟨rfl, hB⟩
  · obtain ⟨k, rfl⟩ := Int.eq_ofNat_of_zero_le c
    rw [Int.toNat_natCast]
    go_enter Tryz.func52, Tryz.ntmps52
    go_wp2_with fail
    refine (sformatInt16 k (by omega) _ hc h5).mono ?_
    rintro e w1 ⟨rfl, hB⟩
    go_wp2
    go_ret
    exact ⟨rfl, hB⟩
end Go.Proofs.YtkdnckkdofoaoaaGreatDoor

/- Encode. -/
namespace Go.Proofs.YtkdnckkdofoaoaaGreatDoor
open Go.RowKit
set_option linter.unusedVariables false

theorem hexGo_len (f : Nat) : ∀ (u : Nat) (acc : List UInt8), (hexGo f u acc).length ≤ f + acc.length := by
  induction f with
  | zero => intro u acc; rw [hexGo]; omega
  | succ f ih =>
    intro u acc
    rw [hexGo]
    split
    · rw [List.length_cons]; omega
    · have := ih (u / 16) (hexD (u % 16) :: acc)
      rw [List.length_cons] at this
      omega
theorem hexT_len (n : Nat) : (hexT n).length ≤ 17 := by have := hexGo_len 17 n []; unfold hexT; simpa using this
/-- A body in chunks of sz bytes. -/
def encL : Nat → Nat → List UInt8 → List UInt8
  | 0, _, _ => []
  | f + 1, sz, l => if l.length = 0 then [48, 13, 10, 13, 10] else hexT (min sz l.length) ++ [13, 10] ++ l.take (min sz l.length) ++ [13, 10] ++ encL f sz (l.drop (min sz l.length))
def encR (size : Int) (l : List UInt8) : List UInt8 := encL (l.length + 1) (max size 1).toNat l
theorem encL_end (f sz : Nat) (l : List UInt8) (h : l.length = 0) : encL (f + 1) sz l = [48, 13, 10, 13, 10] := by rw [encL, if_pos h]
theorem encL_next (f sz : Nat) (l : List UInt8) (h : ¬ l.length = 0) : encL (f + 1) sz l = hexT (min sz l.length) ++ [13, 10] ++ l.take (min sz l.length) ++ [13, 10] ++ encL f sz (l.drop (min sz l.length)) := by rw [encL, if_neg h]
/-- The table that the telling of a size reads. -/
def TzOk (w : World) : Prop := w.cell? ⟨5, 15, none⟩ = some (.int .u8 4)
theorem gTz : Tryz.prog.globalNamed "math/bits.deBruijn64tab" = some 5 := by kernel_rfl
def tzTab : List Int := [0, 1, 56, 2, 57, 49, 28, 3, 61, 58, 42, 50, 38, 29, 17, 4, 62, 47, 59, 36, 45, 43, 51, 22, 53, 39, 33, 30, 24, 18, 12, 5, 63, 55, 48, 27, 60, 41, 37, 16, 46, 35, 44, 21, 52, 32, 23, 11, 54, 26, 40, 15, 34, 20, 31, 10, 25, 14, 19, 9, 13, 8, 7, 6]
theorem tz_of_head {W : World} (h2 : laidMetH Tryz.prog [("math/bits.deBruijn64tab", Lib.tabData .u8 tzTab)] W) : TzOk W := by
  rw [MakeChecks.laidMetH_plain _ _ _ (by kernel_rfl)] at h2
  have p2 := Lib.tabIs_of_head gTz (by kernel_rfl) Tryz.underlying201 Tryz.underlying5 (by kernel_rfl) (by kernel_rfl) h2
  exact p2.cell gTz 15 (by decide)
theorem TzOk.lt {w : World} (h : TzOk w) : 5 < w.heap.size := cell_lt h
theorem TzOk.below {w w' : World} (h : TzOk w) (b : Below w.heap.size w w') : TzOk w' := (b.cell (p := ⟨5, 15, none⟩) h.lt).trans h
theorem TzOk.belowB {B : Nat} {w w' : World} (h : TzOk w) (hB : 5 < B) (b : Below B w w') : TzOk w' := (b.cell (p := ⟨5, 15, none⟩) hB).trans h
theorem tx_cat (x : List UInt8) (y : Array UInt8) : ((⟨x.toArray⟩ : ByteArray) ++ ⟨y⟩).data.toList = x ++ y.toList := by rw [cat_data]
theorem sz_tx (x : List UInt8) (y : Array UInt8) : ((⟨x.toArray⟩ : ByteArray) ++ ⟨y⟩).size = x.length + y.size := by rw [cat_data]; show (x ++ y.toList).length = _; simp

set_option maxRecDepth 100000 in
set_option maxHeartbeats 8000000 in
theorem encode_any (b : List UInt8) (kb : Nat) (v : Value) (size : Int) (w : World) (hs : Src w kb v b) (hk : 0 < b.length → kb < w.heap.size) (hT : TzOk w) (hlen : b.length ≤ 1048576) (hsz : size ≤ 9223372036854775807) :
    Calls Tryz.prog 22 #[v, .int .i64 size] w fun e w' => ∃ v', e = .returned v' ∧ Own w.heap.size w' v' (encR size b) ∧ Below w.heap.size w w' := by
  have HS : Hid (Src w kb v b) := hs
  obtain ⟨sz, hszz⟩ : ∃ sz : Nat, (sz : Int) = max size 1 := ⟨(max size 1).toNat, by omega⟩
  have HP0 : Hid ([] ++ encL (b.length + 1) sz b = encR size b) := by rw [Hid, List.nil_append]; unfold encR; rw [← hszz, Int.toNat_natCast]
  have HZ : Hid ((sz : Int) = max size 1) := hszz
  have hsz1 : 1 ≤ sz := by omega
  have HK : Hid (0 < b.length → kb < w.heap.size) := hk
  have HT : Hid (TzOk w) := hT
  have hlt := hT.lt
  generalize encR size b = R at *
  clear hs hszz hk hT hsz
  obtain ⟨n, hn⟩ : ∃ n, n = b.length := ⟨_, rfl⟩
  rw [← hn] at hlen HP0 HK
  have HN : Hid (n = b.length) := hn
  clear hn
  go_enter Tryz.func22, Tryz.ntmps22
  go_wp2_with fail
  go_loopw [0, 5] (fun v0 v5 wr => ∃ (f : Nat) (rest acc : List UInt8), rest.length < f ∧ rest.length ≤ n ∧ acc.length ≤ 24 * (n - rest.length) ∧ Src wr kb v0 rest ∧ Own w.heap.size wr v5 acc ∧ Hid (acc ++ encL f sz rest = R) ∧ Below w.heap.size w wr) (fun v0 _ _ => lenOf v0)
  case atStart => exact ⟨n + 1, b, [], by have := HN.out; omega, by have := HN.out; omega, by simp, HS.out, Own.nil _ _, HP0, Below.refl _ _⟩
  case round =>
    obtain ⟨f, rest, acc, hf, hrn, hacc, hS, hO, hR, hB⟩ := hrel
    clear HP0 HS
    obtain ⟨f, rfl⟩ : ∃ f', f = f' + 1 := ⟨f - 1, by omega⟩
    obtain ⟨a0, c0, rfl, h1, h2, h3⟩ := hS
    obtain ⟨r, hr⟩ : ∃ r, r = rest.length := ⟨_, rfl⟩
    have HR : Hid (r = rest.length) := hr
    rw [← hr] at hf hrn hacc h1 ⊢
    unfold maxLen at h2
    have hrI : (r : Int) ≤ 1048576 := by omega
    by_cases hp : 0 < r
    · obtain ⟨off, rfl, hc⟩ := h3 (by omega)
      have HSR : Hid (Src wr kb (.slice (some ⟨kb, off, none⟩) r c0) rest) := ⟨_, _, by rw [HR.out], by have := HR.out; omega, by unfold maxLen; omega, fun _ => ⟨off, rfl, hc⟩⟩
      obtain ⟨N, hN⟩ : ∃ N, N = min sz r := ⟨_, rfl⟩
      have hmin : min (max size 1) (r : Int) = (N : Int) := by rw [← HZ.out]; omega
      have hN1 : 1 ≤ N := by omega
      have hNr : N ≤ r := by omega
      have HX : Hid (acc ++ (hexT N ++ [13, 10]) ++ rest.take N ++ [13, 10] ++ encL f sz (rest.drop N) = R) := by
        have h := hR.out
        rw [encL_next f sz rest (by omega), ← hr, ← hN] at h
        rw [Hid, ← h]
        simp [List.append_assoc]
      have hTw : TzOk wr := HT.out.belowB hlt hB
      have HH : Hid (Calls Tryz.prog 52 #[.int .i64 (N : Int)] wr fun e w' => e = .returned (.string ⟨(hexT N).toArray⟩) ∧ Below wr.heap.size wr w') := by
        have h := hexText_any (N : Int) (by omega) wr hTw hTw.lt
        rw [Int.toNat_natCast] at h
        exact h
      have hxl := hexT_len N
      have HTL : Hid ((rest.take N).length = N) := by rw [Hid, List.length_take]; omega
      have hw0 := hB.size
      clear hr hN hR hTw h3 hc
      go_wp2_with fail
      refine HH.out.mono ?_
      rintro e w1 ⟨rfl, B1⟩
      have C1 := hB.trans (B1.mono hB.size)
      have hsum := sum_run w1 ⟨(hexT N).toArray⟩ ⟨#[13, 10]⟩ (by show (hexT N).length + 2 ≤ _; omega)
      obtain ⟨v2, w2, r2, O2, B2⟩ := own_append_str (s := (⟨(hexT N).toArray⟩ ++ ⟨#[13, 10]⟩ : ByteArray)) (hO.keep B1) (by rw [sz_tx]; show _ + (_ + 2) ≤ _; omega) C1.size
      rw [tx_cat] at O2
      have C2 := C1.trans B2
      have S2 : Src w2 kb (.slice (some ⟨kb, off, none⟩) r c0) rest := (HSR.out.keepB (B := w.heap.size) (fun q => HK.out (by have := HR.out; omega)) (B1.mono hw0)).keepB (fun q => HK.out (by have := HR.out; omega)) B2
      obtain ⟨v3, w3, r3, O3, B3⟩ := own_append O2 (S2.take (m := N) (by have := HR.out; omega)) (fun e => by cases e) (by rw [HTL.out]; simp only [List.length_append]; show _ + (_ + 2) + _ ≤ _; omega) C2.size
      have C3 := C2.trans B3
      obtain ⟨v4, w4, r4, O4, B4⟩ := own_append_str (s := ⟨#[13, 10]⟩) O3 (by simp only [List.length_append]; rw [HTL.out]; show _ + (_ + 2) + _ + 2 ≤ _; omega) C3.size
      have C4 := C3.trans B4
      have HO4 : Hid (Own w.heap.size w4 v4 (acc ++ (hexT N ++ [13, 10]) ++ rest.take N ++ [13, 10])) := O4
      have HS4 : Hid (Src w4 kb (.slice (some ⟨kb, off, none⟩) r c0) rest) := (S2.keepB (fun q => HK.out (by have := HR.out; omega)) B3).keepB (fun q => HK.out (by have := HR.out; omega)) B4
      have HL4 : Hid ((acc ++ (hexT N ++ [13, 10]) ++ rest.take N ++ [13, 10]).length ≤ 24 * (n - (r - N))) := by
        rw [Hid]; simp only [List.length_append]; rw [HTL.out]; show _ + (_ + 2) + _ + 2 ≤ _; omega
      clear O2 O3 O4 S2 HSR hO
      generalize (⟨(hexT N).toArray⟩ ++ ⟨#[13, 10]⟩ : ByteArray) = TT at *
      go_wp2_with (first | (at_builtin; refine wpList_append_run2 rfl _ _ 22 9 rfl _ _ _ w2 rfl rfl r2 ?_) | (at_builtin; refine wpList_append_run2 rfl _ _ 22 22 rfl _ _ _ w3 rfl rfl r3 ?_) | (at_builtin; refine wpList_append_run2 rfl _ _ 22 9 rfl _ _ _ w4 rfl rfl r4 ?_))
      all_goals
        go_roundw
        case rel =>
          refine ⟨f, rest.drop N, _, by rw [List.length_drop, ← HR.out]; omega, by rw [List.length_drop, ← HR.out]; omega, by rw [List.length_drop, ← HR.out]; exact HL4.out, ?_, HO4.out, HX, C4⟩
          first
            | exact HS4.out.cut (by have := HR.out; omega) (fun h => by rw [if_neg (by omega)]; simp [addr_add])
            | exact HS4.out.cut (by have := HR.out; omega) (fun _ => rfl)
            | (have hx := HS4.out.cut (m := N) (a' := some ⟨kb, off, none⟩) (by have := HR.out; omega) (fun h => by omega); rw [show c0 - N = 0 by omega] at hx; exact hx)
        case measure => simp [lenOf]; omega
    · have HE : Hid (acc ++ [48, 13, 10, 13, 10] = R) := by rw [Hid, ← hR.out, encL_end f sz rest (by omega)]
      obtain rfl : r = 0 := by omega
      obtain ⟨v2, w2, r2, O2, B2⟩ := own_append_str (s := ⟨#[48, 13, 10, 13, 10]⟩) hO (by show _ + 5 ≤ _; omega) hB.size
      have HO : Hid (Own w.heap.size w2 v2 R) := by rw [Hid, ← HE.out]; exact O2
      have C2 := hB.trans B2
      clear h3 hR O2 HE hr
      go_wp2_with (at_builtin; refine wpList_append_run2 rfl _ _ 22 9 rfl _ _ _ w2 rfl rfl r2 ?_)
      go_ret
      exact ⟨_, rfl, HO.out, C2⟩
end Go.Proofs.YtkdnckkdofoaoaaGreatDoor

/- What is encoded is decoded: plain lemmas. -/
namespace Go.Proofs.YtkdnckkdofoaoaaGreatDoor
open Go.RowKit
set_option linter.unusedVariables false

theorem dgN_hex (d : Nat) (h : d < 16) : dgN (hexD d) = d := by
  have h10 : d = 0 ∨ d = 1 ∨ d = 2 ∨ d = 3 ∨ d = 4 ∨ d = 5 ∨ d = 6 ∨ d = 7 ∨ d = 8 ∨ d = 9 ∨ d = 10 ∨ d = 11 ∨ d = 12 ∨ d = 13 ∨ d = 14 ∨ d = 15 := by omega
  rcases h10 with rfl | rfl | rfl | rfl | rfl | rfl | rfl | rfl | rfl | rfl | rfl | rfl | rfl | rfl | rfl | rfl <;> decide
theorem hexGo_fold : ∀ (f u : Nat) (acc : List UInt8), u < 16 ^ (f + 1) → (hexGo (f + 1) u acc).foldl (stepV 16) (some 0) = acc.foldl (stepV 16) (some u)
  | 0, u, acc, h => by
    have c : u < 16 := by simpa using h
    rw [hexGo_end _ _ _ c, List.foldl_cons]
    simp [stepV, dgN_hex u c, c]
  | f + 1, u, acc, h => by
    by_cases c : u < 16
    · rw [hexGo_end _ _ _ c, List.foldl_cons]
      simp [stepV, dgN_hex u c, c]
    · rw [hexGo_step _ _ _ c, hexGo_fold f (u / 16) _ (by rw [Nat.pow_succ, Nat.mul_comm] at h; exact Nat.div_lt_of_lt_mul h), List.foldl_cons]
      have d := dgN_hex (u % 16) (by omega)
      simp only [stepV, Option.bind_some, d]
      rw [if_pos (by omega)]
      congr 2; omega
theorem vN_hex (n : Nat) (h : n < 16 ^ 17) : vN 16 (hexT n) = some n := by
  unfold vN hexT; rw [hexGo_fold 16 n [] h]; rfl
theorem hexGo_len2 : ∀ (k f u : Nat) (acc : List UInt8), u < 16 ^ (k + 1) → k ≤ f → (hexGo (f + 1) u acc).length ≤ acc.length + (k + 1)
  | 0, f, u, acc, h, _ => by
    rw [hexGo_end _ _ _ (by simpa using h)]; simp
  | k + 1, f, u, acc, h, hf => by
    by_cases c : u < 16
    · rw [hexGo_end _ _ _ c]; simp
    · obtain ⟨f', rfl⟩ : ∃ f', f = f' + 1 := ⟨f - 1, by omega⟩
      rw [hexGo_step _ _ _ c]
      have := hexGo_len2 k f' (u / 16) (hexD (u % 16) :: acc) (by rw [Nat.pow_succ, Nat.mul_comm] at h; exact Nat.div_lt_of_lt_mul h) (by omega)
      rw [List.length_cons] at this
      omega
theorem hexGo_ge : ∀ (f u : Nat) (acc : List UInt8), acc.length ≤ (hexGo f u acc).length
  | 0, u, acc => Nat.le_refl _
  | f + 1, u, acc => by
    by_cases c : u < 16
    · rw [hexGo_end _ _ _ c]; simp
    · rw [hexGo_step _ _ _ c]
      have := hexGo_ge f (u / 16) (hexD (u % 16) :: acc)
      rw [List.length_cons] at this
      omega
theorem hexT_pos (n : Nat) : 1 ≤ (hexT n).length := by
  unfold hexT
  by_cases c : n < 16
  · rw [hexGo_end _ _ _ c]; simp
  · rw [hexGo_step _ _ _ c]
    have := hexGo_ge 16 (n / 16) [hexD (n % 16)]
    simpa using this
theorem hexGo_all : ∀ (f u : Nat) (acc : List UInt8), (∀ b ∈ acc, dgN b < 16) → ∀ b ∈ hexGo f u acc, dgN b < 16
  | 0, u, acc, h => h
  | f + 1, u, acc, h => by
    by_cases c : u < 16
    · rw [hexGo_end _ _ _ c]
      intro b hb
      cases hb with
      | head => rw [dgN_hex u c]; exact c
      | tail _ hb => exact h b hb
    · rw [hexGo_step _ _ _ c]
      refine hexGo_all f _ _ ?_
      intro b hb
      cases hb with
      | head => rw [dgN_hex _ (by omega)]; omega
      | tail _ hb => exact h b hb
theorem hexT_all (n : Nat) : ∀ b ∈ hexT n, dgN b < 16 := hexGo_all 17 n [] (fun _ h => by cases h)
theorem dig_ne {b : UInt8} (h : dgN b < 16) (c : UInt8) (hc : dgN c = 16) : b ≠ c := fun e => by rw [e, hc] at h; omega

/-- No such byte. -/
theorem index_miss (c : UInt8) : ∀ (l : List UInt8), (∀ b ∈ l, b ≠ c) → Lib.index l [c] = -1
  | [], _ => by rw [Lib.index]; simp
  | b :: l, h => by
    rw [Lib.index]
    have hp : ([c] : List UInt8).isPrefixOf (b :: l) = false := by simp [List.isPrefixOf, Ne.symm (h b (.head _))]
    rw [hp, index_miss c l (fun x hx => h x (.tail _ hx))]
    simp
theorem index_hit (c : UInt8) : ∀ (p q : List UInt8), (∀ b ∈ p, b ≠ c) → Lib.index (p ++ c :: q) [c] = p.length
  | [], q, _ => by rw [List.nil_append, Lib.index]; simp [List.isPrefixOf]
  | b :: p, q, h => by
    rw [List.cons_append, Lib.index]
    have hp : ([c] : List UInt8).isPrefixOf (b :: (p ++ c :: q)) = false := by simp [List.isPrefixOf, Ne.symm (h b (.head _))]
    rw [hp, index_hit c p q (fun x hx => h x (.tail _ hx))]
    have : ¬ ((p.length : Int) = -1) := by omega
    simp [this]
theorem cut_none (c : UInt8) (l : List UInt8) (h : ∀ b ∈ l, b ≠ c) : Lib.cut l [c] = (l, [], false) := by
  unfold Lib.cut; rw [index_miss c l h, if_neg (by decide)]
theorem cut_some (c : UInt8) (p q : List UInt8) (h : ∀ b ∈ p, b ≠ c) : Lib.cut (p ++ c :: q) [c] = (p, q, true) := by
  unfold Lib.cut; rw [index_hit c p q h, if_pos (by omega)]
  simp
/-- No blank at the end of digits. -/
theorem trimR_dig (d bl : List UInt8) (hd : ∀ b ∈ d, dgN b < 16) (hb : ∀ b ∈ bl, ([32, 9] : List UInt8).contains b = true) : Lib.trimRightS (d ++ bl) [32, 9] = d := by
  unfold Lib.trimRightS
  rw [List.reverse_append]
  have h1 : ∀ (x y : List UInt8), (∀ b ∈ x, ([32, 9] : List UInt8).contains b = true) → (x ++ y).dropWhile (([32, 9] : List UInt8).contains ·) = y.dropWhile (([32, 9] : List UInt8).contains ·) := by
    intro x
    induction x with
    | nil => intro y _; rfl
    | cons a x ih => intro y h; rw [List.cons_append, List.dropWhile_cons, if_pos (h a (.head _))]; exact ih y (fun b hb => h b (.tail _ hb))
  rw [h1 _ _ (fun b h => hb b (List.mem_reverse.1 h))]
  cases hr : d.reverse with
  | nil => rw [List.reverse_eq_nil_iff.1 hr]; rfl
  | cons a r =>
    have ha : dgN a < 16 := hd a (List.mem_reverse.1 (by rw [hr]; exact .head _))
    have hn : ([32, 9] : List UInt8).contains a = false := by
      have e1 := dig_ne ha 32 (by decide)
      have e2 := dig_ne ha 9 (by decide)
      simp [e1, e2]
    rw [List.dropWhile_cons, if_neg (by rw [hn]; decide), ← hr, List.reverse_reverse]
theorem numV_dig (d : List UInt8) (n : Nat) (h1 : 1 ≤ d.length) (h2 : d.length ≤ 15) (hv : vN 16 d = some n) : numV 16 15 (tx d) = some n := by
  unfold numV; rw [if_neg (by rw [tx_size]; omega)]; exact hv
theorem szO_plain (d : List UInt8) (n : Nat) (hd : ∀ b ∈ d, dgN b < 16) (h1 : 1 ≤ d.length) (h2 : d.length ≤ 15) (hv : vN 16 d = some n) : szO d = some n := by
  have hc := cut_none 59 d (fun b hb => dig_ne (hd b hb) 59 (by decide))
  have ht := trimR_dig d [] hd (fun _ h => by cases h)
  rw [List.append_nil] at ht
  unfold szO
  rw [hc]
  simp only
  rw [if_pos (by rfl), ht]
  exact numV_dig d n h1 h2 hv
theorem szO_ext (d w : List UInt8) (n : Nat) (hd : ∀ b ∈ d, dgN b < 16) (h1 : 1 ≤ d.length) (h2 : d.length ≤ 15) (hv : vN 16 d = some n) (hw : allB valP w = true) : szO (d ++ [32] ++ 59 :: w) = some n := by
  have hc := cut_some 59 (d ++ [32]) w (fun b hb => by
    rcases List.mem_append.1 hb with hb | hb
    · exact dig_ne (hd b hb) 59 (by decide)
    · rw [List.mem_singleton.1 hb]; decide)
  have ht := trimR_dig d [32] hd (fun b h => by rw [List.mem_singleton.1 h]; decide)
  unfold szO
  rw [hc]
  simp only
  rw [if_pos hw, ht]
  exact numV_dig d n h1 h2 hv
theorem szO_hex (n : Nat) (h : n ≤ 1048576) : szO (hexT n) = some n := by
  have hl := hexGo_len2 14 16 n [] (Nat.lt_of_le_of_lt h (by decide)) (by decide)
  refine szO_plain (hexT n) n (hexT_all n) (hexT_pos n) ?_ (vN_hex n (Nat.lt_of_le_of_lt h (by decide)))
  unfold hexT; simpa using hl
theorem plain_dig (d : List UInt8) (hd : ∀ b ∈ d, dgN b < 16) : plain d = true := by
  unfold plain
  rw [List.all_eq_true]
  intro b hb
  have e1 := dig_ne (hd b hb) 13 (by decide)
  have e2 := dig_ne (hd b hb) 10 (by decide)
  simp [e1, e2]
/-- A chunk whose line is s, and tells k. -/
theorem oneP_chunk (m k : Nat) (s d rest : List UInt8) (hp : plain s = true) (hl : s.length ≤ 256) (hz : szO s = some k) (hk : d.length = k) (h0 : 0 < k) (hm : k ≤ m) :
    oneP m (s ++ 13 :: 10 :: (d ++ 13 :: 10 :: rest)) = (0, s.length + 2 + k + 2, s.length + 2, k) := by
  have hc := cutAt_plain 256 (d ++ 13 :: 10 :: rest) s 0 (by decide) hp
  rw [Nat.zero_add, if_neg (by omega)] at hc
  have hlen : (s ++ 13 :: 10 :: (d ++ 13 :: 10 :: rest)).length = s.length + 2 + k + 2 + rest.length := by
    simp only [List.length_append, List.length_cons, hk]; omega
  have hdr : (s ++ 13 :: 10 :: (d ++ 13 :: 10 :: rest)).drop (s.length + 2 + k) = 13 :: 10 :: rest := by
    rw [show s ++ 13 :: 10 :: (d ++ 13 :: 10 :: rest) = (s ++ [13, 10] ++ d) ++ 13 :: 10 :: rest by simp]
    exact List.drop_left' (by simp only [List.length_append, List.length_cons, List.length_nil, hk])
  rw [oneP_hit hc, List.take_left' rfl, hz, oneK_some, if_neg (by omega), if_neg (by omega), if_neg (by rw [hlen]; omega), hdr]
  rfl
theorem oneP_toolong (m k : Nat) (s rest : List UInt8) (hp : plain s = true) (hl : s.length ≤ 256) (hz : szO s = some k) (hm : m < k) :
    oneP m (s ++ 13 :: 10 :: rest) = (2, 0, 0, 0) := by
  have hc := cutAt_plain 256 rest s 0 (by decide) hp
  rw [Nat.zero_add, if_neg (by omega)] at hc
  rw [oneP_hit hc, List.take_left' rfl, hz, oneK_some, if_pos hm]
theorem szO_zero : szO [48] = some 0 := by decide +kernel
theorem oneP_zero (m : Nat) (tail : List UInt8) : oneP m (48 :: 13 :: 10 :: tail) = (0, 3, 0, 0) := by
  have hc := cutAt_plain 256 tail [48] 0 (by decide) (by decide)
  rw [Nat.zero_add, if_neg (by decide)] at hc
  have hc' : cutAt 256 0 (48 :: 13 :: 10 :: tail) = (some 1, 0) := hc
  rw [oneP_hit hc', show (48 :: 13 :: 10 :: tail).take 1 = [48] from rfl, szO_zero, oneK_some, if_neg (by omega), if_pos rfl]
/-- The chunks alone. -/
def encC : Nat → Nat → List UInt8 → List UInt8
  | 0, _, _ => []
  | f + 1, sz, l => if l.length = 0 then [] else hexT (min sz l.length) ++ [13, 10] ++ l.take (min sz l.length) ++ [13, 10] ++ encC f sz (l.drop (min sz l.length))
theorem encC_end (f sz : Nat) (l : List UInt8) (h : l.length = 0) : encC (f + 1) sz l = [] := by rw [encC, if_pos h]
theorem encC_next (f sz : Nat) (l : List UInt8) (h : ¬ l.length = 0) : encC (f + 1) sz l = hexT (min sz l.length) ++ [13, 10] ++ l.take (min sz l.length) ++ [13, 10] ++ encC f sz (l.drop (min sz l.length)) := by rw [encC, if_neg h]
theorem encL_encC (sz : Nat) (hs : 1 ≤ sz) : ∀ (f : Nat) (l : List UInt8), l.length < f → encL f sz l = encC f sz l ++ [48, 13, 10, 13, 10]
  | 0, l, h => by omega
  | f + 1, l, h => by
    by_cases h0 : l.length = 0
    · rw [encL_end f sz l h0, encC_end f sz l h0]; rfl
    · rw [encL_next f sz l h0, encC_next f sz l h0, encL_encC sz hs f _ (by rw [List.length_drop]; omega)]
      simp [List.append_assoc]
theorem encC_len (sz : Nat) (hs : 1 ≤ sz) : ∀ (f : Nat) (l : List UInt8), l.length < f → l.length ≤ (encC f sz l).length
  | 0, l, h => by omega
  | f + 1, l, h => by
    by_cases h0 : l.length = 0
    · omega
    · have hN : (l.take (min sz l.length)).length = min sz l.length := by rw [List.length_take]; omega
      have ih := encC_len sz hs f (l.drop (min sz l.length)) (by rw [List.length_drop]; omega)
      rw [List.length_drop] at ih
      rw [encC_next f sz l h0]
      simp only [List.length_append, List.length_cons, List.length_nil, hN]
      omega
theorem dec_enc (sz : Nat) (hs : 1 ≤ sz) (tail : List UInt8) : ∀ (f g m : Nat) (l : List UInt8), l.length < f → l.length < g → l.length ≤ m → l.length ≤ 1048576 →
    decL g m (encC f sz l ++ 48 :: 13 :: 10 :: tail) = plusD l ((encC f sz l).length + 3) ([], trailL 40 tail)
  | 0, g, m, l, hf, _, _, _ => by omega
  | f + 1, g, m, l, hf, hg, hm, hb => by
    obtain ⟨g, rfl⟩ : ∃ g', g = g' + 1 := ⟨g - 1, by omega⟩
    by_cases h0 : l.length = 0
    · rw [encC_end f sz l h0, List.nil_append, decL_last (oneP_zero m tail) (by decide), List.eq_nil_of_length_eq_zero h0]
      rfl
    · have hN : (l.take (min sz l.length)).length = min sz l.length := by rw [List.length_take]; omega
      have hone := oneP_chunk m (min sz l.length) (hexT (min sz l.length)) (l.take (min sz l.length)) (encC f sz (l.drop (min sz l.length)) ++ 48 :: 13 :: 10 :: tail) (plain_dig _ (hexT_all _)) (by have := hexT_len (min sz l.length); omega) (szO_hex _ (by omega)) hN (by omega) (by omega)
      have hdl : (l.drop (min sz l.length)).length = l.length - min sz l.length := List.length_drop
      have ih := dec_enc sz hs tail f g (m - min sz l.length) (l.drop (min sz l.length)) (by omega) (by omega) (by omega) (by omega)
      rw [encC_next f sz l h0]
      generalize hXX : encC f sz (l.drop (min sz l.length)) = E at *
      have hx : hexT (min sz l.length) ++ [13, 10] ++ l.take (min sz l.length) ++ [13, 10] ++ E ++ 48 :: 13 :: 10 :: tail = hexT (min sz l.length) ++ 13 :: 10 :: (l.take (min sz l.length) ++ 13 :: 10 :: (E ++ 48 :: 13 :: 10 :: tail)) := by simp
      rw [hx, decL_next hone (by omega) (by omega)]
      have hd1 : (hexT (min sz l.length) ++ 13 :: 10 :: (l.take (min sz l.length) ++ 13 :: 10 :: (E ++ 48 :: 13 :: 10 :: tail))).drop ((hexT (min sz l.length)).length + 2) = l.take (min sz l.length) ++ 13 :: 10 :: (E ++ 48 :: 13 :: 10 :: tail) := by
        rw [show hexT (min sz l.length) ++ 13 :: 10 :: (l.take (min sz l.length) ++ 13 :: 10 :: (E ++ 48 :: 13 :: 10 :: tail)) = (hexT (min sz l.length) ++ [13, 10]) ++ (l.take (min sz l.length) ++ 13 :: 10 :: (E ++ 48 :: 13 :: 10 :: tail)) by simp]
        exact List.drop_left' (by simp)
      have hd2 : (hexT (min sz l.length) ++ 13 :: 10 :: (l.take (min sz l.length) ++ 13 :: 10 :: (E ++ 48 :: 13 :: 10 :: tail))).drop ((hexT (min sz l.length)).length + 2 + min sz l.length + 2) = E ++ 48 :: 13 :: 10 :: tail := by
        rw [← hx, List.append_assoc]
        exact List.drop_left' (by simp only [List.length_append, List.length_cons, List.length_nil, hN])
      rw [hd1, hd2, List.take_left' hN, ih, plusD_plusD _ _ _ _ _ (by omega), List.take_append_drop]
      congr 1
      simp only [List.length_append, List.length_cons, List.length_nil, hN]
      omega
theorem dec_long (sz : Nat) (hs : 1 ≤ sz) (tail : List UInt8) : ∀ (f g m : Nat) (l : List UInt8), l.length < f → l.length < g → m < l.length → l.length ≤ 1048576 →
    decL g m (encC f sz l ++ 48 :: 13 :: 10 :: tail) = ([], 0, 2)
  | 0, g, m, l, hf, _, _, _ => by omega
  | f + 1, g, m, l, hf, hg, hm, hb => by
    obtain ⟨g, rfl⟩ : ∃ g', g = g' + 1 := ⟨g - 1, by omega⟩
    have h0 : ¬ l.length = 0 := by omega
    have hN : (l.take (min sz l.length)).length = min sz l.length := by rw [List.length_take]; omega
    have hdl : (l.drop (min sz l.length)).length = l.length - min sz l.length := List.length_drop
    rw [encC_next f sz l h0]
    by_cases hc : m < min sz l.length
    · have hone := oneP_toolong m (min sz l.length) (hexT (min sz l.length)) (l.take (min sz l.length) ++ 13 :: 10 :: (encC f sz (l.drop (min sz l.length)) ++ 48 :: 13 :: 10 :: tail)) (plain_dig _ (hexT_all _)) (by have := hexT_len (min sz l.length); omega) (szO_hex _ (by omega)) hc
      rw [← decL_miss (f := g) hone]
      congr 1
      simp
    · have hone := oneP_chunk m (min sz l.length) (hexT (min sz l.length)) (l.take (min sz l.length)) (encC f sz (l.drop (min sz l.length)) ++ 48 :: 13 :: 10 :: tail) (plain_dig _ (hexT_all _)) (by have := hexT_len (min sz l.length); omega) (szO_hex _ (by omega)) hN (by omega) (by omega)
      have ih := dec_long sz hs tail f g (m - min sz l.length) (l.drop (min sz l.length)) (by omega) (by omega) (by omega) (by omega)
      generalize hXX : encC f sz (l.drop (min sz l.length)) = E at *
      have hx : hexT (min sz l.length) ++ [13, 10] ++ l.take (min sz l.length) ++ [13, 10] ++ E ++ 48 :: 13 :: 10 :: tail = hexT (min sz l.length) ++ 13 :: 10 :: (l.take (min sz l.length) ++ 13 :: 10 :: (E ++ 48 :: 13 :: 10 :: tail)) := by simp
      have hd2 : (hexT (min sz l.length) ++ 13 :: 10 :: (l.take (min sz l.length) ++ 13 :: 10 :: (E ++ 48 :: 13 :: 10 :: tail))).drop ((hexT (min sz l.length)).length + 2 + min sz l.length + 2) = E ++ 48 :: 13 :: 10 :: tail := by
        rw [← hx, List.append_assoc]
        exact List.drop_left' (by simp only [List.length_append, List.length_cons, List.length_nil, hN])
      rw [hx, decL_next hone (by omega) (by omega), hd2, ih]
      rfl
theorem plusD_le {a : List UInt8} {i n : Nat} {r : List UInt8 × Nat × Int} (h : r.2.1 ≤ n) : (plusD a i r).2.1 ≤ i + n := by
  unfold plusD
  split
  · exact Nat.zero_le _
  · show i + r.2.1 ≤ i + n; omega
theorem decL_leJ : ∀ (f m : Nat) (l : List UInt8), (decL f m l).2.1 ≤ l.length := by
  intro f
  induction f with
  | zero => intro m l; exact Nat.zero_le _
  | succ f ih =>
    intro m l
    rcases oneP_cases m l with ⟨e, ho⟩ | ⟨i, ho, hi, _⟩ | ⟨i, k, ho, hk, _, hi, _⟩
    · rw [decL_miss ho]; exact Nat.zero_le _
    · rw [decL_last ho (by omega)]
      have h := trailL_le 40 (l.drop (i + 2))
      rw [List.length_drop] at h
      have := plusD_le (a := []) (i := i + 2) (r := ([], trailL 40 (l.drop (i + 2)))) h
      omega
    · rw [decL_next ho (by omega) (by omega)]
      have h := ih (m - k) (l.drop (i + 2 + k + 2))
      rw [List.length_drop] at h
      have := plusD_le (a := (l.drop (i + 2)).take k) (i := i + 2 + k + 2) h
      omega
theorem encR_eq (size : Int) (l : List UInt8) : encR size l = encC (l.length + 1) (max size 1).toNat l ++ 48 :: 13 :: 10 :: [13, 10] := by
  unfold encR; rw [encL_encC _ (by omega) _ _ (by omega)]
theorem enc_back (size : Int) (l more : List UInt8) (m : Nat) (hl : l.length ≤ 1048576) (hm : l.length ≤ m) : decR m (encR size l ++ more) = (l, (encR size l).length, 0) := by
  have h1 : trailL 40 (13 :: 10 :: more) = (2, 0) := by
    have hc := cutAt_plain 256 more [] 0 (by decide) rfl
    exact trailL_end hc
  unfold decR
  rw [encR_eq, List.append_assoc]
  show decL _ m (encC (l.length + 1) (max size 1).toNat l ++ 48 :: 13 :: 10 :: (13 :: 10 :: more)) = _
  rw [dec_enc (max size 1).toNat (by omega) (13 :: 10 :: more) (l.length + 1) _ m l (by omega) ?_ hm hl, h1]
  · unfold plusD
    rw [if_neg (by decide), List.append_nil]
    simp only [List.length_append, List.length_cons, List.length_nil]
  · have h2 : l.length ≤ (encC (l.length + 1) (max size 1).toNat l).length := encC_len _ (by omega) _ _ (by omega)
    simp only [List.length_append, List.length_cons]
    omega
theorem encC_max (sz : Nat) (hs : 1 ≤ sz) : ∀ (f : Nat) (l : List UInt8), l.length < f → (encC f sz l).length ≤ 22 * l.length
  | 0, l, h => by omega
  | f + 1, l, h => by
    by_cases h0 : l.length = 0
    · rw [encC_end f sz l h0]; exact Nat.zero_le _
    · have hN : (l.take (min sz l.length)).length = min sz l.length := by rw [List.length_take]; omega
      have ih := encC_max sz hs f (l.drop (min sz l.length)) (by rw [List.length_drop]; omega)
      rw [List.length_drop] at ih
      have hx := hexT_len (min sz l.length)
      rw [encC_next f sz l h0]
      simp only [List.length_append, List.length_cons, List.length_nil, hN]
      omega
theorem encR_len (size : Int) (l : List UInt8) : 5 ≤ (encR size l).length ∧ (encR size l).length ≤ 22 * l.length + 5 := by
  have h := encC_max (max size 1).toNat (by omega) (l.length + 1) l (by omega)
  rw [encR_eq, List.length_append]
  simp only [List.length_cons, List.length_nil]
  omega
/-- A proper beginning isn't whole. -/
theorem dec_prefix (m : Nat) (x b : List UInt8) (h : decR m x = (b, x.length, 0)) (j : Nat) (hj : j < x.length) : decR m (x.take j) = ([], 0, 0) := by
  have hnd : ¬ Done (decR m (x.take j)) := by
    intro hd
    have k := decR_app m (x.take j) (x.drop j) hd
    rw [List.take_append_drop, h] at k
    have hle : (decR m (x.take j)).2.1 ≤ (x.take j).length := decL_leJ _ _ _
    rw [← k, List.length_take] at hle
    simp only at hle
    omega
  have hok := decR_ok m (x.take j)
  generalize decR m (x.take j) = r at *
  obtain ⟨a, n, e⟩ := r
  have hn : n = 0 := by
    rcases Nat.eq_zero_or_pos n with q | q
    · exact q
    · exact absurd (.inl (by show n ≠ 0; omega)) hnd
  have he : e = 0 := by
    by_cases q : e = 0
    · exact q
    · exact absurd (.inr q) hnd
  subst hn he
  have := hok.1 rfl
  simp only at this
  rw [this]
theorem enc_long (size : Int) (l : List UInt8) (m : Nat) (hl : l.length ≤ 1048576) (hm : m < l.length) : decR m (encR size l) = ([], 0, 2) := by
  unfold decR
  rw [encR_eq]
  refine dec_long (max size 1).toNat (by omega) [13, 10] (l.length + 1) _ m l (by omega) ?_ hm hl
  have h2 : l.length ≤ (encC (l.length + 1) (max size 1).toNat l).length := encC_len _ (by omega) _ _ (by omega)
  simp only [List.length_append, List.length_cons]
  omega
theorem enc_back0 (size : Int) (l : List UInt8) (m : Nat) (hl : l.length ≤ 1048576) (hm : l.length ≤ m) : decR m (encR size l) = (l, (encR size l).length, 0) := by
  have h := enc_back size l [] m hl hm
  rw [List.append_nil] at h
  exact h
end Go.Proofs.YtkdnckkdofoaoaaGreatDoor
