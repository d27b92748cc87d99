/- SameBytes of equal lists; the document's example of a ring. -/
import Derived.Test.YtenajbefknlalaaRgE
import Derived.Test.YtenajbefknlalaaSamB
import Derived.Laws.IdiomStrings
import Derived.Lib.SlBytesConst
import Derived.Deep.QuietTactic
import Derived.BigQuiet
namespace Go.Proofs.Ytenajbefknlalaa
open Go.RowKit
set_option linter.unusedVariables false

set_option maxRecDepth 100000 in
set_option maxHeartbeats 4000000 in
theorem alive_any (w : World) : Calls Try.prog 5 #[] w fun e w' => e = .returned (.bool true) ∧ Below w.heap.size w w' := by
  have hcs := conv_same
  go_enter Try.func5, Try.ntmps5
  go_wp2_with fail
  refine (new_m 10 _).mono ?_
  rintro e w1 ⟨mb, rfl, hb, hm, hB⟩
  have e0 : mst 10 = 10 := by decide
  rw [e0] at hm
  clear e0
  have HB : Hid (w.heap.size = mb) := hb
  clear hb
  go_wp2_with fail
  refine (newr_any mb _ hm.lt).mono ?_
  generalize hrr : w1.heap.size = r
  rintro e w2 ⟨rfl, R2, B2⟩
  have HR : Hid (w.heap.size ≤ r) := by rw [Hid, ← hrr]; exact hB.size
  have M2 := Below.isM B2 (hrr ▸ hm.lt) hm
  have C2 : Below w.heap.size w w2 := hB.trans (B2.mono HR.out)
  clear hm B2 hB hrr
  have hr2 := R2.lt r rfl
  have hm2 := M2.lt
  have B3 : Below w2.heap.size w2 (w2.alloc (.cells #[.int .u8 97, .int .u8 98, .int .u8 99, .int .u8 100, .int .u8 101, .int .u8 102] 5 (6, 7))) := (Below.refl _ _).alloc (Nat.le_refl _) _
  have P3 := put_yes r mb w2.heap.size _ [] [97, 98, 99, 100, 101, 102] (.slice (some ⟨w2.heap.size, 0, none⟩) 6 6) 10 0 0 (w2.alloc (.cells #[.int .u8 97, .int .u8 98, .int .u8 99, .int .u8 100, .int .u8 101, .int .u8 102] 5 (6, 7))) (R2.keep (Kp.ofBelow (T := fun _ => False) B3) (fun _ _ c => c)) (Below.isM B3 M2.lt M2) (lit_src w2 _ 6 _ _ rfl (by decide) rfl) (by simp) (by omega) (by omega) (by omega) (by omega) (by decide) (by decide)
  have HP3 : Hid (Calls Try.prog 9 #[.pointer (some ⟨r, 0, none⟩), .slice (some ⟨w2.heap.size, 0, none⟩) 6 6] (w2.alloc (.cells #[.int .u8 97, .int .u8 98, .int .u8 99, .int .u8 100, .int .u8 101, .int .u8 102] 5 (6, 7))) fun e w' => e = .returned (.bool true) ∧ ∃ S' : Nat → Prop, Rg w' r mb S' [97, 98, 99, 100, 101, 102] ∧ IsM w' mb 10 6 0 ∧ (∀ i, S' i → w.heap.size ≤ i) ∧ Below w.heap.size w w') := by
    refine P3.mono ?_
    rintro e w' ⟨rfl, S', q1, q2, q3, q4⟩
    have hrw := HR.out
    have hmw := HB.out
    have hw2 := C2.size
    refine ⟨rfl, S', q1, q2, fun i hi => ?_, (C2.trans (B3.mono C2.size)).trans (q4.below (Nat.le_trans C2.size B3.size) (fun k hk c => ?_))⟩
    · have hsz : w2.heap.size ≤ (w2.alloc (.cells #[.int .u8 97, .int .u8 98, .int .u8 99, .int .u8 100, .int .u8 101, .int .u8 102] 5 (6, 7))).heap.size := B3.size
      rcases q3 i hi with c | c
      · omega
      · omega
    · rcases c with c | c <;> omega
  clear P3 B3 R2 M2 C2
  go_wp2_with fail
  refine HP3.out.mono ?_
  rintro e w3 ⟨rfl, S3, R3, M3, F3, C3⟩
  clear HP3 hr2 hm2
  have HT := take_any3 r mb S3 [97, 98, 99, 100, 101, 102] 2 10 6 0 w3 R3 M3 (by omega) (by omega) (by omega) (by decide)
  have HT3 : Hid (Calls Try.prog 11 #[.pointer (some ⟨r, 0, none⟩), .int .i64 2] w3 fun e w' => ∃ g, e = .returned (.slice (some ⟨g, 0, none⟩) 2 2) ∧ Src w' g (.slice (some ⟨g, 0, none⟩) 2 2) [97, 98] ∧ Rg w' r mb S3 [99, 100, 101, 102] ∧ IsM w' mb 10 4 6 ∧ Below w.heap.size w w') := by
    refine HT.mono ?_
    rintro e w' ⟨rfl, q1, q2, q3, q4⟩
    have hmw := HB.out
    exact ⟨_, rfl, src_row (l := [97, 98]) q1 rfl (by decide), q2, q3, C3.trans (q4.below C3.size (fun k hk c => by rcases c with c | c; have := F3 k c; omega; omega))⟩
  clear HT R3 M3 C3
  go_wp2_with fail
  refine HT3.out.mono ?_
  rintro e w4 ⟨g4, rfl, S4, R4, M4, C4⟩
  clear HT3
  have hcb := conv_back S4 (by decide)
  clear S4
  have B5 : Below w4.heap.size w4 (w4.alloc (.cells #[.int .u8 48, .int .u8 49, .int .u8 50, .int .u8 51, .int .u8 52, .int .u8 53, .int .u8 54] 5 (7, 8))) := (Below.refl _ _).alloc (Nat.le_refl _) _
  have HP5 : Hid (Calls Try.prog 9 #[.pointer (some ⟨r, 0, none⟩), .slice (some ⟨w4.heap.size, 0, none⟩) 7 7] (w4.alloc (.cells #[.int .u8 48, .int .u8 49, .int .u8 50, .int .u8 51, .int .u8 52, .int .u8 53, .int .u8 54] 5 (7, 8))) fun e w' => e = .returned (.bool false) ∧ Rg w' r mb S3 [99, 100, 101, 102] ∧ IsM w' mb 10 4 6 ∧ Below w.heap.size w w') := by
    have R5 := R4.keep (Kp.ofBelow (T := fun _ => False) B5) (fun _ _ c => c)
    refine (put_no r mb S3 [99, 100, 101, 102] _ 7 7 10 4 6 _ R5 (Below.isM B5 M4.lt M4) (by omega) (by omega) (by omega) (by decide)).mono ?_
    rintro e w' ⟨rfl, q1, q2⟩
    have hmS := R4.nomb
    have hmw := HB.out
    exact ⟨rfl, R5.keep (Kp.ofBut (T := fun i => i = mb) q2 rfl) (fun i hi e => hmS (e ▸ hi)), q1, (C4.trans (B5.mono C4.size)).trans (q2.below (by omega))⟩
  clear B5 R4 M4 C4
  go_wp2_with fail
  refine HP5.out.mono ?_
  rintro e w6 ⟨rfl, R6, M6, C6⟩
  clear HP5 hcb
  have B7 : Below w6.heap.size w6 (w6.alloc (.cells #[.int .u8 48, .int .u8 49, .int .u8 50, .int .u8 51, .int .u8 52, .int .u8 53] 5 (6, 7))) := (Below.refl _ _).alloc (Nat.le_refl _) _
  have HP7 : Hid (Calls Try.prog 9 #[.pointer (some ⟨r, 0, none⟩), .slice (some ⟨w6.heap.size, 0, none⟩) 6 6] (w6.alloc (.cells #[.int .u8 48, .int .u8 49, .int .u8 50, .int .u8 51, .int .u8 52, .int .u8 53] 5 (6, 7))) fun e w' => e = .returned (.bool true) ∧ ∃ S' : Nat → Prop, Rg w' r mb S' [99, 100, 101, 102, 48, 49, 50, 51, 52, 53] ∧ IsM w' mb 10 10 6 ∧ (∀ i, S' i → w.heap.size ≤ i) ∧ Below w.heap.size w w') := by
    have hSl := R6.lt
    have hml := M6.lt
    have P7 := put_yes r mb w6.heap.size S3 [99, 100, 101, 102] [48, 49, 50, 51, 52, 53] (.slice (some ⟨w6.heap.size, 0, none⟩) 6 6) 10 4 6 (w6.alloc (.cells #[.int .u8 48, .int .u8 49, .int .u8 50, .int .u8 51, .int .u8 52, .int .u8 53] 5 (6, 7))) (R6.keep (Kp.ofBelow (T := fun _ => False) B7) (fun _ _ c => c)) (Below.isM B7 M6.lt M6) (lit_src w6 _ 6 _ _ rfl (by decide) rfl) (by simp) (fun c => Nat.lt_irrefl _ (hSl _ c)) (by omega) (by omega) (by omega) (by decide) (by decide)
    refine P7.mono ?_
    rintro e w' ⟨rfl, S', q1, q2, q3, q4⟩
    have hmw := HB.out
    have hsz : w6.heap.size ≤ (w6.alloc (.cells #[.int .u8 48, .int .u8 49, .int .u8 50, .int .u8 51, .int .u8 52, .int .u8 53] 5 (6, 7))).heap.size := B7.size
    have h6 := C6.size
    refine ⟨rfl, S', q1, q2, fun i hi => ?_, (C6.trans (B7.mono C6.size)).trans (q4.below (by omega) (fun k hk c => ?_))⟩
    · rcases q3 i hi with c | c
      · exact F3 i c
      · omega
    · rcases c with c | c
      · have := F3 k c; omega
      · omega
  clear B7 R6 M6 C6
  go_wp2_with fail
  refine HP7.out.mono ?_
  rintro e w8 ⟨rfl, S8, R8, M8, F8, C8⟩
  clear HP7
  have HP8 : Hid (Calls Try.prog 13 #[.pointer (some ⟨r, 0, none⟩), .int .i64 5] w8 fun e w' => ∃ g, e = .returned (.slice (some ⟨g, 0, none⟩) 5 5) ∧ Src w' g (.slice (some ⟨g, 0, none⟩) 5 5) [99, 100, 101, 102, 48] ∧ Rg w' r mb S8 [99, 100, 101, 102, 48, 49, 50, 51, 52, 53] ∧ IsM w' mb 10 10 6 ∧ Below w.heap.size w w') := by
    refine (peek_any r mb S8 [99, 100, 101, 102, 48, 49, 50, 51, 52, 53] 5 w8 R8 (by decide)).mono ?_
    rintro e w' ⟨rfl, q1, q2⟩
    exact ⟨_, rfl, src_row (l := [99, 100, 101, 102, 48]) q1 rfl (by decide), R8.keep (Kp.ofBelow (T := fun _ => False) q2) (fun _ _ c => c), Below.isM q2 M8.lt M8, C8.trans (q2.mono C8.size)⟩
  clear R8 M8 C8
  go_wp2_with fail
  refine HP8.out.mono ?_
  rintro e w9 ⟨g9, rfl, S9, R9, M9, C9⟩
  clear HP8
  have hcb := conv_back S9 (by decide)
  clear S9
  have HL : Hid (Calls Try.prog 17 #[.pointer (some ⟨r, 0, none⟩)] w9 fun e w' => e = .returned (.int .i64 10) ∧ w' = w9) := len_any r mb S8 [99, 100, 101, 102, 48, 49, 50, 51, 52, 53] w9 R9
  clear R9
  go_wp2_with fail
  refine HL.out.mono ?_
  rintro e w10 ⟨rfl, rfl⟩
  clear HL
  go_wp2_with fail
  refine (held_q mb 10 10 6 _ M9).mono ?_
  rintro e w11 ⟨rfl, rfl⟩
  go_wp2
  go_ret
  exact ⟨rfl, C9⟩
end Go.Proofs.Ytenajbefknlalaa
