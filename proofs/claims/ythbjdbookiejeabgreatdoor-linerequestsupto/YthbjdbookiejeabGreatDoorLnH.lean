/- reading: Request, Status, Host and what tells lines are alive. -/
import Derived.Test.YthbjdbookiejeabGreatDoorLvA
namespace Go.Proofs.YthbjdbookiejeabGreatDoor
open Go.RowKit
set_option linter.unusedVariables false

def kGet : ByteArray := ⟨#[71, 69, 84, 32, 47, 97, 32, 72, 84, 84, 80, 47, 49, 46, 49]⟩
def kTwo : ByteArray := ⟨#[71, 69, 84, 32, 47, 97, 32, 72, 84, 84, 80, 47, 50, 46, 48]⟩
def kSta : ByteArray := ⟨#[72, 84, 84, 80, 47, 49, 46, 48, 32, 52, 48, 52, 32, 78, 111, 116, 32, 70, 111, 117, 110, 100]⟩
def kHst : ByteArray := ⟨#[65, 46, 98, 58, 56, 48]⟩
def kNot : ByteArray := ⟨#[78, 111, 116, 32, 70, 111, 117, 110, 100]⟩
theorem e_get : rqP kGet = ⟨⟨#[71, 69, 84]⟩, ⟨#[47, 97]⟩, 1, 0⟩ := by kernel_rfl
theorem e_two : rqP kTwo = ⟨⟨#[]⟩, ⟨#[]⟩, 0, 505⟩ := by kernel_rfl
theorem e_sta : statP kSta = ⟨404, kNot, 0, true⟩ := by kernel_rfl
theorem e_hst : hostP kHst = (⟨#[97, 46, 98]⟩, true) := by kernel_rfl
theorem e_rl : reqT ⟨#[71, 69, 84]⟩ ⟨#[47, 97]⟩ (verT 1) = ⟨#[71, 69, 84, 32, 47, 97, 32, 72, 84, 84, 80, 47, 49, 46, 49, 13, 10]⟩ := by kernel_rfl
theorem e_sl : staT (verT 0) (itoaS 404) kNot = ⟨#[72, 84, 84, 80, 47, 49, 46, 48, 32, 52, 48, 52, 32, 78, 111, 116, 32, 70, 111, 117, 110, 100, 13, 10]⟩ := by kernel_rfl

set_option maxRecDepth 100000 in
set_option maxHeartbeats 4000000 in
theorem reading_any (w : World) (hL : Lv w) : Calls Tryz.prog 23 #[] w fun e w' => e = .returned (.bool true) ∧ Below w.heap.size w w' := by
  have H1 : Hid (∀ W, Below w.heap.size w W → Calls Tryz.prog 24 #[.string ⟨#[71, 69, 84, 32, 47, 97, 32, 72, 84, 84, 80, 47, 49, 46, 49]⟩] W fun e w' => e = .returned (.tuple #[.agg #[.string ⟨#[71, 69, 84]⟩, .string ⟨#[47, 97]⟩, .int .i64 1, .slice none 0 0, .slice none 0 0], .int .i64 0]) ∧ Below W.heap.size W w') := fun W b => by
    have k := lreq_any kGet W (by decide) (hL.below b).max
    rw [e_get] at k
    exact k
  have H2 : Hid (∀ W, Below w.heap.size w W → Calls Tryz.prog 48 #[.string ⟨#[72, 84, 84, 80, 47, 49, 46, 48, 32, 52, 48, 52, 32, 78, 111, 116, 32, 70, 111, 117, 110, 100]⟩] W fun e w' => e = .returned (.tuple #[.agg #[.int .i64 404, .string ⟨#[78, 111, 116, 32, 70, 111, 117, 110, 100]⟩, .int .i64 0, .slice none 0 0, .slice none 0 0], .bool true]) ∧ Below W.heap.size W w') := fun W b => by
    have k := status_any kSta W (by decide) (hL.below b).max
    rw [e_sta] at k
    exact k
  have H3 : Hid (∀ W, Calls Tryz.prog 19 #[.string ⟨#[65, 46, 98, 58, 56, 48]⟩] W fun e w' => e = .returned (.tuple #[.string ⟨#[97, 46, 98]⟩, .bool true]) ∧ Below W.heap.size W w') := fun W => by
    have k := host_any kHst W (by decide)
    rw [e_hst] at k
    exact k
  have H4 : Hid (∀ W, Below w.heap.size w W → Calls Tryz.prog 24 #[.string ⟨#[71, 69, 84, 32, 47, 97, 32, 72, 84, 84, 80, 47, 50, 46, 48]⟩] W fun e w' => e = .returned (.tuple #[.agg #[.string ⟨#[]⟩, .string ⟨#[]⟩, .int .i64 0, .slice none 0 0, .slice none 0 0], .int .i64 505]) ∧ Below W.heap.size W w') := fun W b => by
    have k := lreq_any kTwo W (by decide) (hL.below b).max
    rw [e_two] at k
    exact k
  have H5 : Hid (∀ W, Below w.heap.size w W → Calls Tryz.prog 49 #[.agg #[.string ⟨#[71, 69, 84]⟩, .string ⟨#[47, 97]⟩, .int .i64 1, .slice none 0 0, .slice none 0 0]] W fun e w' => e = .returned (.string ⟨#[71, 69, 84, 32, 47, 97, 32, 72, 84, 84, 80, 47, 49, 46, 49, 13, 10]⟩) ∧ Below W.heap.size W w') := fun W b => by
    have k := reqline_any (f1 := none) (f2 := none) (l1 := 0) (k1 := 0) (l2 := 0) (k2 := 0) ⟨#[71, 69, 84]⟩ ⟨#[47, 97]⟩ 1 (by decide) (by decide) (by decide +kernel) W (hL.below b).pow (by decide) (by decide)
    rw [e_rl] at k
    exact k
  have H6 : Hid (∀ W, Below w.heap.size w W → Calls Tryz.prog 50 #[.agg #[.int .i64 404, .string ⟨#[78, 111, 116, 32, 70, 111, 117, 110, 100]⟩, .int .i64 0, .slice none 0 0, .slice none 0 0]] W fun e w' => e = .returned (.string ⟨#[72, 84, 84, 80, 47, 49, 46, 48, 32, 52, 48, 52, 32, 78, 111, 116, 32, 70, 111, 117, 110, 100, 13, 10]⟩) ∧ Below W.heap.size W w') := fun W b => by
    have k := statline_any (f1 := none) (f2 := none) (l1 := 0) (k1 := 0) (l2 := 0) (k2 := 0) 404 0 kNot (by decide +kernel) (by decide) (by decide) (by decide) (by decide) (by decide +kernel) (by decide +kernel) W (hL.below b).pow (by decide)
    rw [e_sl] at k
    exact k
  clear hL
  go_enter Tryz.func23, Tryz.ntmps23
  go_wp2_with fail
  refine (H1.out _ (Below.refl _ _)).mono ?_
  rintro e w1 ⟨rfl, B1⟩
  clear H1
  go_wp2_with fail
  have C1 := B1.alloc B1.size (.cells #[.string ⟨#[71, 69, 84]⟩, .string ⟨#[47, 97]⟩, .int .i64 1, .slice none 0 0, .slice none 0 0] 26)
  have hr := tblk_new w1 (.cells #[.string ⟨#[71, 69, 84]⟩, .string ⟨#[47, 97]⟩, .int .i64 1, .slice none 0 0, .slice none 0 0] 26)
  clear B1
  refine (H2.out _ C1).mono ?_
  generalize w1.alloc (.cells #[.string ⟨#[71, 69, 84]⟩, .string ⟨#[47, 97]⟩, .int .i64 1, .slice none 0 0, .slice none 0 0] 26) = W1 at *
  rintro e w2 ⟨rfl, B2⟩
  have hr2 := tblk_below hr B2
  have C2 := C1.trans (B2.mono C1.size)
  clear hr C1 B2 H2
  go_wp2_with fail
  have C3 := C2.alloc C2.size (.cells #[.int .i64 404, .string ⟨#[78, 111, 116, 32, 70, 111, 117, 110, 100]⟩, .int .i64 0, .slice none 0 0, .slice none 0 0] 34)
  have hs := tblk_new w2 (.cells #[.int .i64 404, .string ⟨#[78, 111, 116, 32, 70, 111, 117, 110, 100]⟩, .int .i64 0, .slice none 0 0, .slice none 0 0] 34)
  have hr3 := tblk_below hr2 ((Below.refl _ _).alloc (Nat.le_refl _) (.cells #[.int .i64 404, .string ⟨#[78, 111, 116, 32, 70, 111, 117, 110, 100]⟩, .int .i64 0, .slice none 0 0, .slice none 0 0] 34))
  clear C2 hr2
  refine (H3.out _).mono ?_
  generalize w2.alloc (.cells #[.int .i64 404, .string ⟨#[78, 111, 116, 32, 70, 111, 117, 110, 100]⟩, .int .i64 0, .slice none 0 0, .slice none 0 0] 34) = W2 at *
  rintro e w3 ⟨rfl, B3⟩
  have hr4 := tblk_below hr3 B3
  have hs4 := tblk_below hs B3
  have C4 := C3.trans (B3.mono C3.size)
  clear hr3 hs C3 B3 H3
  go_wp2_with fail
  refine (H4.out _ C4).mono ?_
  rintro e w4 ⟨rfl, B4⟩
  have hr5 := tblk_below hr4 B4
  have hs5 := tblk_below hs4 B4
  have C5 := C4.trans (B4.mono C4.size)
  clear hr4 hs4 C4 B4 H4
  generalize w1.heap.size = b0 at *
  generalize w2.heap.size = b1 at *
  have C6 := C5.alloc C5.size (.cells #[.string ⟨#[]⟩, .string ⟨#[]⟩, .int .i64 0, .slice none 0 0, .slice none 0 0] 26)
  have hr6 := tblk_below hr5 ((Below.refl _ _).alloc (Nat.le_refl _) (.cells #[.string ⟨#[]⟩, .string ⟨#[]⟩, .int .i64 0, .slice none 0 0, .slice none 0 0] 26))
  have hs6 := tblk_below hs5 ((Below.refl _ _).alloc (Nat.le_refl _) (.cells #[.string ⟨#[]⟩, .string ⟨#[]⟩, .int .i64 0, .slice none 0 0, .slice none 0 0] 26))
  have a0 := tblk_cell (i := 0) hr6 rfl
  have s0 := tblk_cell (i := 0) hs6 rfl
  have a1 := tblk_cell (i := 1) hr6 rfl
  have s1 := tblk_cell (i := 1) hs6 rfl
  have a2 := tblk_cell (i := 2) hr6 rfl
  have s2 := tblk_cell (i := 2) hs6 rfl
  have a3 := tblk_cell (i := 3) hr6 rfl
  have s3 := tblk_cell (i := 3) hs6 rfl
  have a4 := tblk_cell (i := 4) hr6 rfl
  have s4 := tblk_cell (i := 4) hs6 rfl
  clear C5 hr5 hs5
  go_wp2_with fail
  refine (H5.out _ C6).mono ?_
  rintro e w5 ⟨rfl, B5⟩
  have hs7 := tblk_below hs6 B5
  have C7 := C6.trans (B5.mono C6.size)
  clear C6 B5 H5 hr6 hs6 a0 a1 a2 a3 a4 s0 s1 s2 s3 s4
  have s0 := tblk_cell (i := 0) hs7 rfl
  have s1 := tblk_cell (i := 1) hs7 rfl
  have s2 := tblk_cell (i := 2) hs7 rfl
  have s3 := tblk_cell (i := 3) hs7 rfl
  have s4 := tblk_cell (i := 4) hs7 rfl
  go_wp2_with fail
  refine (H6.out _ C7).mono ?_
  rintro e w6 ⟨rfl, B6⟩
  have C8 := C7.trans (B6.mono C7.size)
  clear C7 B6 H6 hs7 s0 s1 s2 s3 s4
  go_wp2
  go_ret
  exact ⟨rfl, C8⟩
end Go.Proofs.YthbjdbookiejeabGreatDoor
