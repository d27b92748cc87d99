/- Whatever the text, SignClasses answers true: it is a token, a value, of a target's bytes, or not, as the document says; no condition. -/
import Derived.Test.YtmmileafiainnaaRows
import Derived.WalkKit
import Derived.ProofKit
import Derived.OpenShut
import Derived.ShutString
import Derived.Test.YtmmileafiainnaaSignD
namespace Go.Proofs.Ytmmileafiainnaa.signClasses
open Go.ChangeShapes Go.WideShapes Go.ChangeAt Go.RowKit
open Go.ChangeMaps (open_string shut_string)
set_option linter.unusedVariables false

theorem own : ownKnob Try.prog.godebug = none := by kernel_rfl

set_option maxHeartbeats 2000000 in
theorem classes_any (w : World) : Calls Try.prog 23 #[] w fun e w' => e = .returned (.bool true) ∧ Below w.heap.size w w' := by
  have E0 : Hid ((allB tokP (ByteArray.mk #[97, 45, 49]).data.toList && decide (0 < (ByteArray.mk #[97, 45, 49]).size)) = true) := by rw [Hid]; decide +kernel
  have E1 : Hid ((allB tokP (ByteArray.mk #[97, 32, 98]).data.toList && decide (0 < (ByteArray.mk #[97, 32, 98]).size)) = false) := by rw [Hid]; decide +kernel
  have E2 : Hid ((allB tokP (ByteArray.mk #[]).data.toList && decide (0 < (ByteArray.mk #[]).size)) = false) := by rw [Hid]; decide +kernel
  have E3 : Hid ((allB valP (ByteArray.mk #[97, 32, 98]).data.toList) = true) := by rw [Hid]; decide +kernel
  have E4 : Hid ((allB valP (ByteArray.mk #[97, 10]).data.toList) = false) := by rw [Hid]; decide +kernel
  have E5 : Hid ((allB (spanP 33 126) (ByteArray.mk #[47, 97]).data.toList && decide (0 < (ByteArray.mk #[47, 97]).size)) = true) := by rw [Hid]; decide +kernel
  have E6 : Hid ((allB (spanP 33 126) (ByteArray.mk #[47, 32, 97]).data.toList && decide (0 < (ByteArray.mk #[47, 32, 97]).size)) = false) := by rw [Hid]; decide +kernel
  go_enter Try.func23, Try.ntmps23
  go_wp2_with fail
  refine (token_any ⟨#[97, 45, 49]⟩ _ (by decide +kernel)).mono ?_
  rw [E0.out]
  rintro e w1 ⟨rfl, B0⟩
  go_wp2_with fail
  refine (token_any ⟨#[97, 32, 98]⟩ _ (by decide +kernel)).mono ?_
  rw [E1.out]
  rintro e w2 ⟨rfl, B1⟩
  go_wp2_with fail
  refine (token_any ⟨#[]⟩ _ (by decide +kernel)).mono ?_
  rw [E2.out]
  rintro e w3 ⟨rfl, B2⟩
  go_wp2_with fail
  refine (value_any ⟨#[97, 32, 98]⟩ _ (by decide +kernel)).mono ?_
  rw [E3.out]
  rintro e w4 ⟨rfl, B3⟩
  go_wp2_with fail
  refine (value_any ⟨#[97, 10]⟩ _ (by decide +kernel)).mono ?_
  rw [E4.out]
  rintro e w5 ⟨rfl, B4⟩
  go_wp2_with fail
  refine (target_any ⟨#[47, 97]⟩ _ (by decide +kernel)).mono ?_
  rw [E5.out]
  rintro e w6 ⟨rfl, B5⟩
  go_wp2_with fail
  refine (target_any ⟨#[47, 32, 97]⟩ _ (by decide +kernel)).mono ?_
  rw [E6.out]
  rintro e w7 ⟨rfl, B6⟩
  go_wp2
  go_ret
  have D5 := B5.trans (B6.mono B5.size)
  have D4 := B4.trans (D5.mono B4.size)
  have D3 := B3.trans (D4.mono B3.size)
  have D2 := B2.trans (D3.mono B2.size)
  have D1 := B1.trans (D2.mono B1.size)
  exact ⟨rfl, B0.trans (D1.mono B0.size)⟩

set_option maxHeartbeats 2000000 in
theorem walk (s : ByteArray) (w : World) (hs : s.size ≤ maxLen) :
    Calls Try.prog 8 #[.string s] w fun e w' => e = .returned (.bool true) ∧ Below w.heap.size w w' := by
  go_enter Try.func8, Try.ntmps8
  go_wp2_with fail
  refine (classes_any _).mono ?_
  rintro e w1 ⟨rfl, B0⟩
  go_wp2_with fail
  refine (token_any s _ hs).mono ?_
  rintro e w2 ⟨rfl, B1⟩
  go_wp2_with fail
  refine (rToken_any s _ hs).mono ?_
  rintro e w3 ⟨rfl, rfl⟩
  generalize (allB tokP s.data.toList && decide (0 < s.size)) = x at *
  go_wp2_with fail
  refine (value_any s _ hs).mono ?_
  rintro e w4 ⟨rfl, B2⟩
  go_wp2_with fail
  refine (rValue_any s _ hs).mono ?_
  rintro e w5 ⟨rfl, rfl⟩
  generalize allB valP s.data.toList = y at *
  go_wp2_with fail
  refine (target_any s _ hs).mono ?_
  rintro e w6 ⟨rfl, B3⟩
  go_wp2_with fail
  refine (rTarget_any s _ hs).mono ?_
  rintro e w7 ⟨rfl, rfl⟩
  generalize (allB (spanP 33 126) s.data.toList && decide (0 < s.size)) = z at *
  go_wp2
  go_ret
  have D2 := B2.trans (B3.mono B2.size)
  have D1 := B1.trans (D2.mono B1.size)
  exact ⟨ret_b (by simp), B0.trans (D1.mono B0.size)⟩

set_option maxRecDepth 100000 in
theorem lifted (os : Os) (started : os.Started) (H : Type) (enc : TypeId × Value → H) :
    ReturnsInHanded {} Try.checked os 8 .any (Rows.signClassesSpec.pre6 enc Try.prog Try.f8 Rows.signClassesRow.domain false) (Rows.signClassesSpec.post enc Try.prog Try.f8 false true false false) := by
  refine returnsInHanded_of_change (C := Try.checked) own started (by kernel_rfl) Try.func8
    (ChangeSpec.witness6 (enc := enc) (C := Try.checked) false ⟨#[], #[.string ByteArray.empty], []⟩ 8 (by kernel_rfl) (by kernel_rfl) (by kernel_rfl) (by kernel_rfl)) ?_
  intro W base args ds gs before hval0 hW hcnd _
  have hval : ∀ (j : Nat) t v, Try.f8.params[j]? = some t → args[j]? = some v → Value.okWide Try.prog W .any base t v := hval0
  have hW' := hW
  obtain ⟨p, q, hA0, hV, rfl, hfz, hnd⟩ := hW
  have hA : DataW.TrodAll enc Try.prog W 0 (fun _ => true) true Try.f8.params.toList args.toList ds p := hA0
  rw [Try.params8] at hA hval
  obtain ⟨v0, vs0, d0, ds0, p0, q0, hargs, rfl, rfl, h0, r0⟩ := trodAll_cons hA
  obtain ⟨rfl, rfl, rfl⟩ := trodAll_nil r0
  obtain rfl : args = #[v0] := by cases args; simp_all
  obtain ⟨rfl, rfl⟩ := trodVars_none hV
  obtain ⟨a0, rfl, rfl, rfl, w0⟩ := open_string Try.underlying9 (hval 0 9 v0 rfl rfl) h0
  clear hA0 hval0
  simp only [List.append_nil] at hW'
  refine (walk a0 W w0).mono fun e W' ⟨he, bel⟩ => ?_
  subst he
  exact ⟨_, rfl, _, _, _, [], _, [], hW', trodAll_mk1 (shut_bool Try.underlying4 _), (trodAll_cons_mk (shut_string Try.underlying9 w0) trodAll_mk0), rfl, bel.frame _, fun h => by cases h⟩

theorem over : Rows.signClassesRow.holds Try.pinned (OpenSpec.ofChange Rows.signClassesSpec) :=
  OpenClaim.holds_of_wide 8 Try.f8 rfl rfl rfl rfl rfl rfl rfl ⟨rfl, rfl, rfl, rfl, rfl⟩ rfl rfl rfl rfl rfl (by kernel_rfl) Try.func8 (by kernel_rfl)
    (of_decide_eq_true (by kernel_rfl)) (by unfold Func.isWrapper; first | (rw [if_pos (by decide +kernel)]; kernel_rfl) | (rw [if_neg (by decide +kernel)]; exact ⟨rfl, rfl⟩))
    (fun os started H enc _ => lifted os started H enc)

end Go.Proofs.Ytmmileafiainnaa.signClasses
namespace Go.Proofs.Ytmmileafiainnaa
/-- The statement. -/
theorem signClasses_holds : Rows.SignClassesSaid := signClasses.over
#print axioms signClasses_holds
end Go.Proofs.Ytmmileafiainnaa
