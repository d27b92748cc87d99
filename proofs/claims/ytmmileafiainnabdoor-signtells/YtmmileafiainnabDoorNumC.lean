/- numbers: the examples of the reading and telling of numbers are as they should be. -/
import Derived.Test.YtmmileafiainnabDoorNumB
import Derived.Test.YtmmileafiainnabDoorHexA
import Derived.Test.YtmmileafiainnabDoorShelfN
import Derived.Lib.AppendIntMem
import Derived.Lib.LaidTab
import Derived.LaidSub
import Derived.MakeChecks
namespace Go.Proofs.YtmmileafiainnabDoor
open Go.RowKit
set_option linter.unusedVariables false

/-- The tables that the telling of a number reads. -/
structure Tabs (w : World) : Prop where
  pow : Lib.TabIs Tryd.prog w "internal/strconv.uint64pow10" .u64 Lib.pow10Tab
  tz : w.cell? ⟨5, 15, none⟩ = some (.int .u8 4)
  size : 6 ≤ w.heap.size
theorem gPow : Tryd.prog.globalNamed "internal/strconv.uint64pow10" = some 0 := by kernel_rfl
theorem gTz : Tryd.prog.globalNamed "math/bits.deBruijn64tab" = some 5 := by kernel_rfl
def tzTab : List Int := [0, 1, 56, 2, 57, 49, 28, 3, 61, 58, 42, 50, 38, 29, 17, 4, 62, 47, 59, 36, 45, 43, 51, 22, 53, 39, 33, 30, 24, 18, 12, 5, 63, 55, 48, 27, 60, 41, 37, 16, 46, 35, 44, 21, 52, 32, 23, 11, 54, 26, 40, 15, 34, 20, 31, 10, 25, 14, 19, 9, 13, 8, 7, 6]
theorem lt_of_cell {w : World} {b o : Nat} {v : Value} (h : w.cell? ⟨b, o, none⟩ = some v) : b < w.heap.size := by
  unfold World.cell? at h
  rcases Nat.lt_or_ge b w.heap.size with c | c
  · exact c
  · simp [Array.getElem?_eq_none c] at h
theorem Tabs.below {w w' : World} (h : Tabs w) (b : Below w.heap.size w w') : Tabs w' := by
  have hs := h.size
  refine ⟨?_, (b.cell (p := ⟨5, 15, none⟩) (show 5 < w.heap.size by omega)).trans h.tz, Nat.le_trans h.size b.size⟩
  exact var?_below b gPow (by omega) h.pow

theorem text_any (n : Int) (h0 : -9223372036854775808 ≤ n) (h1 : n ≤ 9223372036854775807) (w : World) (ht : Tabs w) :
    Calls Tryd.prog 23 #[.int .i64 n] w fun e w' => e = .returned (.string ⟨(Lib.itoa n).toArray⟩) ∧ Below w.heap.size w w' := by
  have hp := ht.pow
  have HP : Hid (Lib.TabIs Tryd.prog w "internal/strconv.uint64pow10" .u64 Lib.pow10Tab) := hp
  clear hp
  go_enter Tryd.func23, Tryd.ntmps23
  go_wp2_with fail
  refine (Tryd.strconv_FormatInt_10 n h0 h1 _ HP.out).mono ?_
  rintro e w1 ⟨rfl, k, os, hw⟩
  have hB : Below w.heap.size w w1 := by rw [hw]; exact Lib.below_grow _ w (Nat.le_refl _) k os
  clear hw
  go_wp2
  go_ret
  exact ⟨rfl, hB⟩

set_option maxHeartbeats 2000000 in
theorem numbers_any (w : World) (ht : Tabs w) : Calls Tryd.prog 18 #[] w fun e w' => e = .returned (.bool true) ∧ Below w.heap.size w w' := by
  have E1 : Hid (numI 16 15 ⟨#[49, 97, 70]⟩ = 431 ∧ numB 16 15 ⟨#[49, 97, 70]⟩ = true) := by rw [Hid]; decide +kernel
  have E2 : Hid (numI 10 18 ⟨#[49, 50]⟩ = 12 ∧ numB 10 18 ⟨#[49, 50]⟩ = true) := by rw [Hid]; decide +kernel
  have E3 : Hid (numI 10 18 ⟨#[43, 49]⟩ = 0 ∧ numB 10 18 ⟨#[43, 49]⟩ = false) := by rw [Hid]; decide +kernel
  have E4 : Hid ((⟨(Lib.itoa (-5)).toArray⟩ : ByteArray) = ⟨#[45, 53]⟩) := by rw [Hid]; decide +kernel
  have E5 : Hid ((⟨(hexT (431 : Int).toNat).toArray⟩ : ByteArray) = ⟨#[49, 97, 102]⟩) := by rw [Hid]; decide +kernel
  go_enter Tryd.func18, Tryd.ntmps18
  go_wp2_with fail
  refine (hex_any ⟨#[49, 97, 70]⟩ _ (by decide +kernel)).mono ?_
  rw [E1.out.1, E1.out.2]
  rintro e w1 ⟨rfl, rfl⟩
  go_wp2_with fail
  refine (decimal_any ⟨#[49, 50]⟩ _ (by decide +kernel)).mono ?_
  rw [E2.out.1, E2.out.2]
  rintro e w2 ⟨rfl, rfl⟩
  go_wp2_with fail
  refine (decimal_any ⟨#[43, 49]⟩ _ (by decide +kernel)).mono ?_
  rw [E3.out.1, E3.out.2]
  rintro e w3 ⟨rfl, rfl⟩
  go_wp2_with fail
  refine (text_any (-5) (by decide) (by decide) _ ht).mono ?_
  rw [E4.out]
  rintro e w4 ⟨rfl, B4⟩
  have ht4 := ht.below B4
  go_wp2_with fail
  refine (hexText_any 431 (by decide) _ ht4.tz (by have := ht4.size; omega)).mono ?_
  rw [E5.out]
  rintro e w5 ⟨rfl, B5⟩
  go_wp2
  go_ret
  exact ⟨rfl, B4.trans (B5.mono B4.size)⟩

/-- Out of the row's condition: the tables. -/
theorem tabs_of {l : List (String × DataW Unit)} {W : World} (hl : l = Rows.signNumbersRow.laid) (h : laidMetH Tryd.prog l W) : Tabs W := by
  subst hl
  have h1 := laidMetH.filter (fun x => x.1 == "internal/strconv.uint64pow10") h
  have h2 := laidMetH.filter (fun x => x.1 == "math/bits.deBruijn64tab") h
  have e1 : Rows.signNumbersRow.laid.filter (fun x => x.1 == "internal/strconv.uint64pow10") = [("internal/strconv.uint64pow10", Lib.tabData .u64 Lib.pow10Tab)] := by kernel_rfl
  have e2 : Rows.signNumbersRow.laid.filter (fun x => x.1 == "math/bits.deBruijn64tab") = [("math/bits.deBruijn64tab", Lib.tabData .u8 tzTab)] := by kernel_rfl
  rw [e1, MakeChecks.laidMetH_plain _ _ _ (by kernel_rfl)] at h1
  rw [e2, MakeChecks.laidMetH_plain _ _ _ (by kernel_rfl)] at h2
  have p1 := Lib.tabIs_of_head gPow (by kernel_rfl) Tryd.underlying68 Tryd.underlying58 (by kernel_rfl) (by kernel_rfl) h1
  have p2 := Lib.tabIs_of_head gTz (by kernel_rfl) Tryd.underlying83 Tryd.underlying5 (by kernel_rfl) (by kernel_rfl) h2
  have c : W.cell? ⟨5, 15, none⟩ = some (.int .u8 4) := p2.cell gTz 15 (by decide)
  exact ⟨p1, c, lt_of_cell c⟩
end Go.Proofs.YtmmileafiainnabDoor
