/- The document's examples of bodies in chunks. -/
import Derived.Test.YtbmpfjmnedlahacDoorChkE
import Derived.Test.YtbmpfjmnedlahacDoorChkF
namespace Go.Proofs.YtbmpfjmnedlahacDoor
open Go.RowKit
set_option linter.unusedVariables false

theorem Own.conv {B : Nat} {w : World} {a : Option Addr} {n c : Nat} {X : List UInt8} (h : Own B w (.slice a n c) X) (hn : 0 < n) : (convert 25 9 (.slice a n c)).run Tryd.prog w = .ok (.string ⟨X.toArray⟩) w := by
  obtain ⟨k, hS, _⟩ := h.src
  exact conv_back hS hn
theorem decode_lit (l : List UInt8) (n : Nat) (most : Int) (row : Array Value) (fz : Nat × Nat) (X : List UInt8) (m : Nat) (er : Int) (hl : l.length = n) (hm : n ≤ 1000) (hr : (rowB l).toArray = row) (hmost : most ≤ 9223372036854775807) (hx : decR most.toNat l = (X, m, er)) (w : World) (hM : MaxL w) :
    Calls Tryd.prog 8 #[.slice (some ⟨w.heap.size, 0, none⟩) n n, .int .i64 most] (w.alloc (.cells row 5 fz)) fun e w' => ∃ a c, e = .returned (.tuple #[.slice a X.length c, .int .i64 (m : Nat), .int .i64 er]) ∧ Own w.heap.size w' (.slice a X.length c) X ∧ Below w.heap.size w w' := by
  have hB : Below w.heap.size w (w.alloc (.cells row 5 fz)) := (Below.refl _ _).alloc (Nat.le_refl _) _
  have k := decode_any l w.heap.size _ most _ (lit_src w l n row fz hl (by unfold maxLen; omega) hr) (fun _ => by simp) (hM.below hB) (by omega) hmost
  rw [hx] at k
  refine k.mono ?_
  rintro e w' ⟨v', rfl, hO, B'⟩
  obtain ⟨a, c, rfl, _⟩ := hO.form
  exact ⟨a, c, rfl, hO.mono hB.size, hB.trans (B'.mono hB.size)⟩
theorem encode_lit (l : List UInt8) (n : Nat) (size : Int) (row : Array Value) (fz : Nat × Nat) (X : List UInt8) (hl : l.length = n) (hm : n ≤ 1000) (hr : (rowB l).toArray = row) (hsz : size ≤ 9223372036854775807) (hx : encR size l = X) (w : World) (hT : TzOk w) :
    Calls Tryd.prog 10 #[.slice (some ⟨w.heap.size, 0, none⟩) n n, .int .i64 size] (w.alloc (.cells row 5 fz)) fun e w' => ∃ a c, e = .returned (.slice a X.length c) ∧ Own w.heap.size w' (.slice a X.length c) X ∧ Below w.heap.size w w' := by
  have hB : Below w.heap.size w (w.alloc (.cells row 5 fz)) := (Below.refl _ _).alloc (Nat.le_refl _) _
  have k := encode_any l w.heap.size _ size _ (lit_src w l n row fz hl (by unfold maxLen; omega) hr) (fun _ => by simp) (hT.below hB) (by omega) hsz
  rw [hx] at k
  refine k.mono ?_
  rintro e w' ⟨v', rfl, hO, B'⟩
  obtain ⟨a, c, rfl, _⟩ := hO.form
  exact ⟨a, c, rfl, hO.mono hB.size, hB.trans (B'.mono hB.size)⟩
theorem ex1 : decR (10 : Int).toNat [51, 59, 120, 61, 49, 13, 10, 97, 98, 99, 13, 10, 48, 13, 10, 97, 58, 32, 98, 13, 10, 13, 10, 114, 101, 115, 116] = ([97, 98, 99], 23, 0) := by decide +kernel
theorem ex2 : decR (10 : Int).toNat [51, 13, 10, 97, 98] = ([], 0, 0) := by decide +kernel
theorem ex3 : decR (10 : Int).toNat [120, 13, 10] = ([], 0, 30) := by decide +kernel
theorem ex4 : encR 5 [] = [48, 13, 10, 13, 10] := by decide +kernel
theorem ex5 : encR 2 [97, 98, 99] = [50, 13, 10, 97, 98, 13, 10, 49, 13, 10, 99, 13, 10, 48, 13, 10, 13, 10] := by decide +kernel

set_option maxRecDepth 100000 in
set_option maxHeartbeats 4000000 in
theorem alive6_any (w : World) (hM : MaxL w) (hT : TzOk w) : Calls Tryd.prog 6 #[] w fun e w' => e = .returned (.bool true) ∧ Below w.heap.size w w' := by
  have hcs := conv_same
  go_enter Tryd.func6, Tryd.ntmps6
  go_wp2_with fail
  refine (decode_lit [51, 59, 120, 61, 49, 13, 10, 97, 98, 99, 13, 10, 48, 13, 10, 97, 58, 32, 98, 13, 10, 13, 10, 114, 101, 115, 116] 27 10 _ _ _ _ _ rfl (by decide) rfl (by decide) ex1 _ hM).mono ?_
  rintro e w1 ⟨a1, c1, rfl, O1, B1⟩
  have HM1 : Hid (MaxL w1) := hM.below B1
  have HT1 : Hid (TzOk w1) := hT.below B1
  clear hM hT
  go_wp2_with fail
  refine (decode_lit [51, 13, 10, 97, 98] 5 10 _ _ _ _ _ rfl (by decide) rfl (by decide) ex2 _ HM1.out).mono ?_
  rintro e w2 ⟨a2, c2, rfl, _, B2⟩
  have HM2 : Hid (MaxL w2) := HM1.out.below B2
  have HT2 : Hid (TzOk w2) := HT1.out.below B2
  have O2 := O1.keep B2
  have C2 := B1.trans (B2.mono B1.size)
  clear O1 B1 B2 HM1 HT1
  go_wp2_with fail
  refine (decode_lit [120, 13, 10] 3 10 _ _ _ _ _ rfl (by decide) rfl (by decide) ex3 _ HM2.out).mono ?_
  rintro e w3 ⟨a3, c3, rfl, _, B3⟩
  have HT3 : Hid (TzOk w3) := HT2.out.below B3
  have O3 := O2.keep B3
  have C3 := C2.trans (B3.mono C2.size)
  clear O2 B3 C2 HM2 HT2
  have hcv : (convert 25 9 (.slice a1 3 c1)).run Tryd.prog w3 = .ok (.string ⟨#[97, 98, 99]⟩) w3 := O3.conv (by decide)
  have HE4 : Hid (Calls Tryd.prog 10 #[.slice none 0 0, .int .i64 5] w3 fun e w' => ∃ a c, e = .returned (.slice a 5 c) ∧ Own w3.heap.size w' (.slice a 5 c) [48, 13, 10, 13, 10] ∧ Below w3.heap.size w3 w') := by
    have k := encode_any [] 0 (.slice none 0 0) 5 w3 (src_none w3 0) (fun h => absurd h (Nat.lt_irrefl _)) HT3.out (by decide) (by decide)
    rw [ex4] at k
    refine k.mono ?_
    rintro e w' ⟨v', rfl, hO, B'⟩
    obtain ⟨a, c, rfl, _⟩ := hO.form
    exact ⟨a, c, rfl, hO, B'⟩
  clear O3
  go_wp2_with fail
  refine HE4.out.mono ?_
  rintro e w4 ⟨a4, c4, rfl, O4, B4⟩
  have HT4 : Hid (TzOk w4) := HT3.out.below B4
  have C4 := C3.trans (B4.mono C3.size)
  have hcv4 : (convert 25 9 (.slice a4 5 c4)).run Tryd.prog w4 = .ok (.string ⟨#[48, 13, 10, 13, 10]⟩) w4 := O4.conv (by decide)
  clear O4 B4 HE4 hcv C3
  go_wp2_with fail
  refine (encode_lit [97, 98, 99] 3 2 _ _ _ rfl (by decide) rfl (by decide) ex5 _ HT4.out).mono ?_
  rintro e w5 ⟨a5, c5, rfl, O5, B5⟩
  have C5 := C4.trans (B5.mono C4.size)
  have hcv5 : (convert 25 9 (.slice a5 18 c5)).run Tryd.prog w5 = .ok (.string ⟨#[50, 13, 10, 97, 98, 13, 10, 49, 13, 10, 99, 13, 10, 48, 13, 10, 13, 10]⟩) w5 := O5.conv (by decide)
  clear O5 B5 hcv4
  go_wp2
  go_ret
  exact ⟨rfl, C5⟩
end Go.Proofs.YtbmpfjmnedlahacDoor
