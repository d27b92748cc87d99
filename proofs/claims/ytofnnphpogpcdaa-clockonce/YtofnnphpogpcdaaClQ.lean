/- Clock: the document's example. -/
import Derived.Test.YtofnnphpogpcdaaClO
namespace Go.Proofs.Ytofnnphpogpcdaa
open Go.RowKit
set_option linter.unusedVariables false

theorem lit_rd (w : World) (l : List Int) (hl : l.length ≤ 1000) : RdR 1 encI (w.alloc (.cells (l.map fun x => Value.int .i64 x).toArray 3)) (some ⟨w.heap.size, 0, none⟩) l.length l := by
  refine ⟨(fun e => by cases e), Nat.le_refl _, by unfold maxLen; omega, fun _ => ⟨w.heap.size, 0, rfl, by simp, fun j x hj i hi => ?_⟩⟩
  obtain rfl : i = 0 := by omega
  rw [Nat.mul_one, Nat.add_zero, Nat.zero_add]
  refine tblk_cell (tblk_new _ _) ?_
  rw [List.getElem?_toArray, List.getElem?_map, hj]
  rfl
theorem ir (x : Int) (h : -9223372036854775808 ≤ x ∧ x ≤ 9223372036854775807 := by decide) : InR x := h
set_option maxRecDepth 100000 in
set_option maxHeartbeats 1000000 in
theorem alive15_any (w : World) : Calls Try.prog 8 #[] w fun e w' => e = .returned (.bool true) ∧ Below w.heap.size w w' := by
  have HN := hidE (CB.new w w (Below.refl _ _) (fun _ => False) (fun k hk => hk.elim))
  go_enter Try.func8, Try.ntmps8
  go_wp2_with fail
  refine HN.out.mono ?_
  rintro e w1 ⟨cb, mk, rfl, C, B⟩
  have H := hidE (C.set (by decide) 2 5 5 rfl (ir 2) [(2, 5)] rfl)
  clear HN C B
  go_wp2_with fail
  refine H.out.mono ?_
  rintro e w2 ⟨rfl, C, B⟩
  have H := hidE (C.set (by decide) 1 5 5 rfl (ir 1) [(1, 5), (2, 5)] rfl)
  clear C B
  go_wp2_with fail
  refine H.out.mono ?_
  rintro e w3 ⟨rfl, C, B⟩
  have H := hidE (C.set (by decide) 3 4 4 rfl (ir 3) [(3, 4), (1, 5), (2, 5)] rfl)
  clear C B
  go_wp2_with fail
  refine H.out.mono ?_
  rintro e w4 ⟨rfl, C, B⟩
  have H := hidE (C.next 4 true rfl)
  have HC := hidE C
  clear C B
  go_wp2_with fail
  refine H.out.mono ?_
  rintro e w5 ⟨rfl, rfl⟩
  have H := hidE (HC.out.pass (by decide) (fun p hp => by simp at hp; rcases hp with rfl | rfl | rfl <;> exact ir _) 4 4 (by decide) [3] (by decide) [(1, 5), (2, 5)] (by decide))
  clear HC
  go_wp2_with fail
  refine H.out.mono ?_
  rintro e w6 ⟨a1, c1, rfl, R, C, B⟩
  have C2 := hidE (C.bel ((Below.refl _ _).alloc (Nat.le_refl _) (.cells #[.int .i64 3] 3)))
  have H := hidE (sameints_any [3] [3] _ _ _ _ (w6.alloc (.cells #[.int .i64 3] 3)) (R.keep ((Below.refl _ _).alloc (Nat.le_refl _) _)) (lit_rd w6 [3] (by decide)) true (by decide))
  clear R C B
  go_wp2_with fail
  refine H.out.mono ?_
  rintro e w7 ⟨rfl, k, rfl⟩
  have C3 := C2.out.bel (W := _) (V := (w6.alloc (.cells #[.int .i64 3] 3)).drewN k) ⟨rfl, rfl, rfl, Nat.le_refl _, fun _ _ => rfl⟩
  generalize (w6.alloc (.cells #[.int .i64 3] 3)).drewN k = w7 at *
  have H := hidE (C3.pass (by decide) (fun p hp => by simp at hp; rcases hp with rfl | rfl <;> exact ir _) 1 5 (by decide) [1, 2] (by decide) [] (by decide))
  clear C2 C3
  go_wp2_with fail
  refine H.out.mono ?_
  rintro e w8 ⟨a2, c2, rfl, R, C, B⟩
  have C2 := hidE (C.bel ((Below.refl _ _).alloc (Nat.le_refl _) (.cells #[.int .i64 1, .int .i64 2] 3)))
  have H := hidE (sameints_any [1, 2] [1, 2] _ _ _ _ (w8.alloc (.cells #[.int .i64 1, .int .i64 2] 3)) (R.keep ((Below.refl _ _).alloc (Nat.le_refl _) _)) (lit_rd w8 [1, 2] (by decide)) true (by decide))
  clear R C B
  go_wp2_with fail
  refine H.out.mono ?_
  rintro e w9 ⟨rfl, k2, rfl⟩
  have C3 := C2.out.bel (W := _) (V := (w8.alloc (.cells #[.int .i64 1, .int .i64 2] 3)).drewN k2) ⟨rfl, rfl, rfl, Nat.le_refl _, fun _ _ => rfl⟩
  generalize (w8.alloc (.cells #[.int .i64 1, .int .i64 2] 3)).drewN k2 = w9 at *
  have H := hidE (C3.pass (by decide) (fun p hp => by simp at hp) 9 14 (by decide) [] (by decide) [] (by decide))
  clear C2 C3
  go_wp2_with fail
  refine H.out.mono ?_
  rintro e w10 ⟨a3, c3, rfl, R, C, B⟩
  have H := hidE C.time
  have HC := hidE C
  clear R C B
  go_wp2_with fail
  refine H.out.mono ?_
  rintro e w11 ⟨rfl, rfl⟩
  have H := hidE (HC.out.drop (by decide) 1 (ir 1) false (by decide) [] (by decide))
  clear HC
  go_wp2_with fail
  refine H.out.mono ?_
  rintro e w12 ⟨rfl, C, B⟩
  have HB := hidE C.be
  clear C B H
  go_wp2
  go_ret
  exact ⟨rfl, HB.out⟩
end Go.Proofs.Ytofnnphpogpcdaa
