/- The statements' own example of a pool (lending). -/
import Derived.Test.YtlaigjapnmgjeaaPoL
namespace Go.Proofs.Ytlaigjapnmgjeaa
open Go.RowKit Go.Shelf
set_option linter.unusedVariables false

abbrev lA : KS := ⟨#[97]⟩
abbrev lB : KS := ⟨#[98]⟩
theorem tlB : ByteArray.toList lB = [98] := by kernel_rfl
theorem tlA : ByteArray.toList lA = [97] := by kernel_rfl
set_option maxRecDepth 100000 in
set_option maxHeartbeats 4000000 in
theorem lending_any (w : World) : Calls Try.prog 6 #[] w fun e w' => e = .returned (.bool true) ∧ Below w.heap.size w w' := by
  have HN := hidE (new_pi 1 1 w (by decide))
  go_enter Try.func6, Try.ntmps6
  go_wp2_with fail
  refine HN.out.mono ?_
  rintro e w1 ⟨rfl, C⟩
  clear HN
  generalize w.heap.size + 1 = pb at C ⊢
  generalize hmk : w.heap.size = mk at C
  have HC := hidE C
  clear C
  have H1 := hidE (take_new HC.out lA (by decide) (by decide) (fun y hy => by simp at hy) (by decide) 1 rfl)
  clear HC hmk
  go_wp2_with fail
  refine H1.out.mono ?_
  rintro e w2 ⟨rfl, C⟩
  replace C := C.new1 (.cells #[.int .i64 1, .int .i64 0, .bool true] 39)
  have H2 := hidE (joined_yes C 1 (by unfold InR; omega) (by decide) lA (updI_same _ _ _))
  clear H1 C
  go_wp2_with fail
  refine H2.out.mono ?_
  rintro e w3 ⟨rfl, C⟩
  have H3 := hidE (rest_yes C 1 (by unfold InR; omega) (by decide) lA (updI_same _ _ _))
  clear H2 C
  go_wp2_with fail
  refine H3.out.mono ?_
  rintro e w4 ⟨rfl, C⟩
  have H4 := hidE (take_old C lA (by decide) (by decide) [] 1 [] rfl (fun y hy => by simp at hy) (by unfold neA; rw [updI_same]; show ¬ ((ByteArray.toList lA == ByteArray.toList lA) = false); rw [tlA]; decide))
  clear H3 C
  go_wp2_with fail
  refine H4.out.mono ?_
  rintro e w5 ⟨rfl, C⟩
  have ef : List.filter (butH 1) (([] : List Int) ++ [1]) = [] := rfl
  rw [ef] at C
  clear ef
  replace C := C.newF (.cells #[.int .i64 1, .int .i64 0, .bool false] 39)
  have H5 := hidE (take_full C lB (by decide) (by decide) (by decide))
  clear H4
  go_wp2_with fail
  refine H5.out.mono ?_
  rintro e w6 ⟨rfl, C⟩
  replace C := C.new1 (.cells #[.int .i64 0, .int .i64 0, .bool false] 39)
  have z := (C.fr _ (List.mem_cons_self ..)).1
  have z0 := tblk_cell z (o := 0) rfl
  have z1 := tblk_cell z (o := 1) rfl
  have z2 := tblk_cell z (o := 2) rfl
  clear z
  have H6 := hidE (rest_yes C 1 (by unfold InR; omega) (by decide) lA (by rw [updI_same, updI_same]; rfl))
  clear H5 C
  go_wp2_with fail
  refine H6.out.mono ?_
  rintro e w7 ⟨rfl, C⟩
  have H7 := hidE (take_out (x := 1) (r := []) C lB (by decide) (by decide) (fun y hy => by
    have : y = 1 := by simpa using hy
    subst this
    unfold neA; rw [updI_same]; show (ByteArray.toList lA == ByteArray.toList lB) = false; rw [tlA, tlB]; decide) (by decide) 2 rfl)
  clear H6 C z0 z1 z2
  go_wp2_with fail
  refine H7.out.mono ?_
  rintro e w8 ⟨rfl, C⟩
  replace C := C.new1 (.cells #[.int .i64 2, .int .i64 1, .bool true] 39)
  have HC := hidE C
  clear H7 C
  have H8 := hidE (len_pi HC.out)
  have tB := tlB
  go_wp2_with fail
  refine H8.out.mono ?_
  rintro e w9 ⟨rfl, rfl⟩
  have H9 := hidE (state_pi HC.out 2 (by unfold InR; omega) 1 (by rw [updI_same]; rfl))
  clear H8
  go_wp2_with fail
  refine H9.out.mono ?_
  rintro e w9 ⟨rfl, rfl⟩
  have H10 := hidE (aim_pi HC.out 2 (by unfold InR; omega) lB (by rw [updI_same]; rfl))
  clear H9 HC
  go_wp2_with fail
  refine H10.out.mono ?_
  rintro e w10 ⟨rfl, C⟩
  have H11 := hidE (shut_yes C 2 (by unfold InR; omega) (by decide) (by rw [updI_same]; rfl))
  clear H10 C
  go_wp2_with fail
  refine H11.out.mono ?_
  rintro e w11 ⟨rfl, C⟩
  have H12 := hidE (shut_no C 2 (by unfold InR; omega) (by decide) (updI_same _ _ _))
  have HB := hidE C.be
  clear H11 C
  go_wp2_with fail
  refine H12.out.mono ?_
  rintro e w12 ⟨rfl, rfl⟩
  clear H12
  go_wp2
  go_ret
  exact ⟨by simp, HB.out⟩
end Go.Proofs.Ytlaigjapnmgjeaa
