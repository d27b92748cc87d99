/- SignTexts, walked. -/
import Derived.Test.YtmmileafiainnabDoorRefC
namespace Go.Proofs.YtmmileafiainnabDoor
open Go.RowKit
set_option linter.unusedVariables false

set_option maxRecDepth 100000 in
set_option maxHeartbeats 4000000 in
theorem texts_walk (a b : ByteArray) (w : World) (ha : a.size ≤ 4294967280) (hb : b.size ≤ 4294967280) (hM : MaxL w) :
    Calls Tryd.prog 3 #[.string a, .string b] w fun e w' => e = .returned (.bool true) ∧ Below w.heap.size w w' := by
  have HA : Hid (a.size ≤ 4294967280) := ha
  have HB : Hid (b.size ≤ 4294967280) := hb
  have HP : Hid (Hid (∀ p ∈ pieces a, p.size ≤ 140737488355328)) := fun p hp => by have := pieces_size a p hp; omega
  have HN : Hid ((keepT (pieces a)).length ≤ maxLen) := by
    rw [Hid]; have h1 := keepT_len (pieces a); have h2 := pieces_len a; unfold maxLen; omega
  clear ha hb
  go_enter Tryd.func3, Tryd.ntmps3
  go_wp2_with fail
  refine (texts_any _ hM).mono ?_
  rintro e w1 ⟨rfl, B1⟩
  have M1 : Hid (MaxL w1) := hM.below B1
  clear hM
  go_wp2_with fail
  refine (trim_any a _ (by have := HA.out; omega)).mono ?_
  rintro e w2 ⟨rfl, B2⟩
  have M2 : Hid (MaxL w2) := M1.out.below B2
  have C2 := B1.trans (B2.mono B1.size)
  clear B1 B2 M1
  go_wp2_with fail
  refine (rtrim_any a _ (by have := HA.out; omega)).mono ?_
  rintro e w3 ⟨rfl, B3⟩
  have M3 : Hid (MaxL w3) := M2.out.below B3
  have C3 := C2.trans (B3.mono C2.size)
  clear C2 B3 M2
  generalize trimT a = T at *
  go_wp2_with fail
  refine (fold_any a _ (by have := HA.out; unfold maxLen; omega)).mono ?_
  rintro e w4 ⟨rfl, B4⟩
  have M4 : Hid (MaxL w4) := M3.out.below B4
  have C4 := C3.trans (B4.mono C3.size)
  clear C3 B4 M3
  go_wp2_with fail
  refine (rfold_any a _ (by have := HA.out; omega)).mono ?_
  rintro e w5 ⟨rfl, B5⟩
  have M5 : Hid (MaxL w5) := M4.out.below B5
  have C5 := C4.trans (B5.mono C4.size)
  clear C4 B5 M4
  go_wp2_with fail
  refine (split_any a w5 (by have := HA.out; omega) (pieces_length a) HP.out.out M5.out).mono ?_
  rintro e w6 ⟨a1, c1, rfl, O6, B6⟩
  have C6 := C5.trans (B6.mono C5.size)
  clear C5 B6 M5
  go_wp2_with fail
  refine (rsplit_any a w6 (by have := HA.out; omega)).mono ?_
  rintro e w7 ⟨a2, c2, rfl, O7, B7⟩
  have O67 := owns_below O6 B7
  have C7 := C6.trans (B7.mono C6.size)
  clear C6 B7 O6
  have HS : Hid (Calls Tryd.prog 14 #[.slice a1 (keepT (pieces a)).length c1, .slice a2 (keepT (pieces a)).length c2] w7 fun e w' => e = .returned (.bool true) ∧ Below w7.heap.size w7 w') := sameTexts_eq _ _ _ _ _ _ _ w7 HN.out O67 O7
  clear O67 O7 HN HP
  generalize (keepT (pieces a)).length = N at *
  go_wp2_with fail
  refine HS.out.mono ?_
  rintro e w8 ⟨rfl, B8⟩
  have C8 := C7.trans (B8.mono C7.size)
  clear C7 B8 HS
  go_wp2_with fail
  refine (same_any a b _ (by have := HA.out; unfold maxLen; omega) (by have := HB.out; unfold maxLen; omega)).mono ?_
  rintro e w9 ⟨rfl, B9⟩
  have C9 := C8.trans (B9.mono C8.size)
  clear C8 B9
  go_wp2_with fail
  refine (rfold_any a _ (by have := HA.out; omega)).mono ?_
  rintro e w10 ⟨rfl, B10⟩
  have C10 := C9.trans (B10.mono C9.size)
  clear C9 B10
  go_wp2_with fail
  refine (rfold_any b _ (by have := HB.out; omega)).mono ?_
  rintro e w11 ⟨rfl, B11⟩
  have C11 := C10.trans (B11.mono C10.size)
  clear C10 B11
  generalize foldS a = FA at *
  generalize foldS b = FB at *
  go_wp2
  go_ret
  exact ⟨ret_bT (by simp), C11⟩
end Go.Proofs.YtmmileafiainnabDoor
