/- Whatever the two numbers, MeterExact answers true: as much as there is room for is taken and not one more, and given back all there is room for all; no condition. -/
import Derived.Test.YtmmileafiainnaaRows
import Derived.WalkKit
import Derived.ProofKit
import Derived.OpenShut
import Derived.Test.YtmmileafiainnaaMeterC
namespace Go.Proofs.Ytmmileafiainnaa.meterExact
open Go.ChangeShapes Go.WideShapes Go.ChangeAt Go.RowKit
set_option linter.unusedVariables false      -- a walk need not use every 'w<i>' (that an integer argument fits its kind)

theorem own : ownKnob Try.prog.godebug = none := by kernel_rfl

theorem take_fill (b : Nat) (m h p n : Int) (w : World) (hm : IsM w b m h p) (h0 : 0 ≤ h) (h1 : h ≤ m) (h2 : m ≤ 1099511627776) (c : n = m - h) :
    Calls Try.prog 13 #[.pointer (some ⟨b, 0, none⟩), .int .i64 n] w fun e w' => e = .returned (.bool true) ∧ IsM w' b m m p ∧ But b w w' :=
  take_ok b m h p n m w hm h0 h1 h2 (by omega) (by omega) (by omega)
theorem take_zero (b : Nat) (m h p : Int) (w : World) (hm : IsM w b m h p) (h0 : 0 ≤ h) (h1 : h ≤ m) (h2 : m ≤ 1099511627776) :
    Calls Try.prog 13 #[.pointer (some ⟨b, 0, none⟩), .int .i64 0] w fun e w' => e = .returned (.bool true) ∧ IsM w' b m h p ∧ But b w w' :=
  take_ok b m h p 0 h w hm h0 h1 h2 (by omega) (by omega) (by omega)
theorem give_top (b : Nat) (m h n : Int) (w : World) (hm : IsM w b m h 0) (h0 : 0 ≤ h) (h1 : h ≤ m) (h2 : m ≤ 1099511627776) (c : 0 < n) (d : h ≤ n) :
    Calls Try.prog 15 #[.pointer (some ⟨b, 0, none⟩), .int .i64 n] w fun e w' => e = .returned (.int .i64 h) ∧ IsM w' b m 0 h ∧ But b w w' :=
  give_all b m h 0 n h w hm h0 h1 h2 c d (by split <;> omega)
theorem peak_p (b : Nat) (m p : Int) (w : World) (hm : IsM w b m 0 p) (h0 : 0 ≤ p) :
    Calls Try.prog 17 #[.pointer (some ⟨b, 0, none⟩)] w fun e w' => e = .returned (.int .i64 p) ∧ IsM w' b m 0 p ∧ But b w w' :=
  peak_at b m 0 p p w hm (if_pos h0)
theorem n3 (M n : Int) : (n < 0 ∧ tkB M 0 n = false ∧ tkH M 0 n = 0) ∨ (0 ≤ n ∧ M < n ∧ tkB M 0 n = false ∧ tkH M 0 n = 0) ∨ (0 ≤ n ∧ n ≤ M ∧ tkB M 0 n = true ∧ tkH M 0 n = n) := by
  rcases Int.lt_or_le n 0 with c | c
  · exact .inl ⟨c, tk_no (.inl c)⟩
  · rcases Int.lt_or_le M n with d | d
    · exact .inr (.inl ⟨c, d, tk_no (.inr (by omega))⟩)
    · refine .inr (.inr ⟨c, d, ?_⟩)
      have := tk_yes (m := M) (h := 0) c (by omega)
      rw [show (0 : Int) + n = n from by omega] at this
      exact this

set_option maxHeartbeats 4000000 in
theorem walk (a0 : Int) (n : Int) (w : World) :
    Calls Try.prog 5 #[.int .i64 a0, .int .i64 n] w fun e w' => e = .returned (.bool true) ∧ Below w.heap.size w w' := by
  rcases n3 (mst a0) n with ⟨d, e1, e2⟩ | ⟨d, d', e1, e2⟩ | ⟨d, d', e1, e2⟩
  all_goals
    go_enter Try.func5, Try.ntmps5
    go_wp2_with fail
    refine (new_m a0 _).mono ?_
    rintro e w1 ⟨b, rfl, hb, hm, hB⟩
    have HB : Hid (w.heap.size = b) := hb
    clear hb
    go_wp2_with fail
    refine (alive_any _).mono ?_
    rintro e w2 ⟨rfl, hA⟩
    have hm2 := Below.isM hA hm.lt hm
    have hlt := hm.lt
    have hB2 := hB.trans (hA.mono hB.size)
    clear hm hA hB
    rcases mst3 a0 with ⟨c, e⟩ | ⟨c, c', e⟩ | ⟨c, e⟩
    all_goals
      rw [e] at e1 e2 hm2
      try rw [e] at d'
      clear e
      go_wp2_with fail
      refine (take_any b _ _ _ _ _ hm2 (by omega) (by omega) (by omega)).mono ?_
      rw [e1, e2]
      clear e1 e2
      rintro e w3 ⟨rfl, hm3, hb3⟩
      go_wp2_with fail
      refine (room_any b _ _ _ _ hm3 (by omega) (by omega) (by omega)).mono ?_
      rintro e w4 ⟨rfl, hm4, hb4⟩
      go_wp2_with fail
      refine (take_nok b _ _ _ _ _ hm4 (by omega) (by omega) (by omega) (.inr (by omega))).mono ?_
      rintro e w5 ⟨rfl, hm5, hb5⟩
      go_wp2_with fail
      refine (take_nok b _ _ _ _ _ hm5 (by omega) (by omega) (by omega) (.inl (by omega))).mono ?_
      rintro e w6 ⟨rfl, hm6, hb6⟩
      go_wp2_with fail
      refine (take_fill b _ _ _ _ _ hm6 (by omega) (by omega) (by omega) (by omega)).mono ?_
      rintro e w7 ⟨rfl, hm7, hb7⟩
      go_wp2_with fail
      refine (room_any b _ _ _ _ hm7 (by omega) (by omega) (by omega)).mono ?_
      rintro e w8 ⟨rfl, hm8, hb8⟩
      go_wp2_with fail
      refine (take_nok b _ _ _ _ _ hm8 (by omega) (by omega) (by omega) (.inr (by omega))).mono ?_
      rintro e w9 ⟨rfl, hm9, hb9⟩
      go_wp2_with fail
      refine (take_zero b _ _ _ _ hm9 (by omega) (by omega) (by omega)).mono ?_
      rintro e w10 ⟨rfl, hm10, hb10⟩
      go_wp2_with fail
      refine (give_no b _ _ _ _ _ hm10 (by omega) (by omega) (by omega) (by omega)).mono ?_
      rintro e w11 ⟨rfl, hm11, hb11⟩
      go_wp2_with fail
      refine (give_top b _ _ _ _ hm11 (by omega) (by omega) (by omega) (by omega) (by omega)).mono ?_
      rintro e w12 ⟨rfl, hm12, hb12⟩
      go_wp2_with fail
      refine (held_any b _ _ _ _ hm12).mono ?_
      rintro e w13 ⟨rfl, hm13, hb13⟩
      go_wp2_with fail
      refine (room_any b _ _ _ _ hm13 (by omega) (by omega) (by omega)).mono ?_
      rintro e w14 ⟨rfl, hm14, hb14⟩
      go_wp2_with fail
      refine (peak_p b _ _ _ hm14 (by omega)).mono ?_
      rintro e w15 ⟨rfl, hm15, hb15⟩
      go_wp2
      go_ret
      have hb := HB.out
      exact ⟨rfl, hB2.trans ((hb3.trans (hb4.trans (hb5.trans (hb6.trans (hb7.trans (hb8.trans (hb9.trans (hb10.trans (hb11.trans (hb12.trans (hb13.trans (hb14.trans hb15)))))))))))).below (by omega))⟩

/-! ### THE ROW's STEP: WRITTEN OUT: LEAVE IT -/
set_option maxRecDepth 100000 in
theorem lifted (os : Os) (started : os.Started) (H : Type) (enc : TypeId × Value → H) :
    ReturnsInHanded {} Try.checked os 5 .any (Rows.meterExactSpec.pre6 enc Try.prog Try.f5 Rows.meterExactRow.domain false) (Rows.meterExactSpec.post enc Try.prog Try.f5 false true false false) := by
  refine returnsInHanded_of_change (C := Try.checked) own started (by kernel_rfl) Try.func5
    (ChangeSpec.witness6 (enc := enc) (C := Try.checked) false ⟨#[], #[.int .i64 0, .int .i64 0], []⟩ 8 (by kernel_rfl) (by kernel_rfl) (by kernel_rfl) (by kernel_rfl)) ?_
  intro W base args ds gs before hval0 hW hcnd _
  have hval : ∀ (j : Nat) t v, Try.f5.params[j]? = some t → args[j]? = some v → Value.okWide Try.prog W .any base t v := hval0
  have hW' := hW
  obtain ⟨p, q, hA0, hV, rfl, hfz, hnd⟩ := hW
  have hA : DataW.TrodAll enc Try.prog W 0 (fun _ => true) true Try.f5.params.toList args.toList ds p := hA0
  rw [Try.params5] at hA hval
  obtain ⟨v0, vs0, d0, ds0, p0, q0, hargs, rfl, rfl, h0, r0⟩ := trodAll_cons hA
  obtain ⟨v1, vs1, d1, ds1, p1, q1, rfl, rfl, rfl, h1, r1⟩ := trodAll_cons r0
  obtain ⟨rfl, rfl, rfl⟩ := trodAll_nil r1
  obtain rfl : args = #[v0, v1] := by cases args; simp_all
  obtain ⟨rfl, rfl⟩ := trodVars_none hV
  obtain ⟨a0, rfl, rfl, rfl, w0⟩ := open_int Try.underlying3 (hval 0 3 v0 rfl rfl) h0
  obtain ⟨a1, rfl, rfl, rfl, w1⟩ := open_int Try.underlying3 (hval 1 3 v1 rfl rfl) h1
  clear hA0 hval0
  simp only [List.append_nil] at hW'
  refine (walk a0 a1 W).mono fun e W' ⟨he, bel⟩ => ?_
  subst he
  exact ⟨_, rfl, _, _, _, [], _, [], hW', trodAll_mk1 (shut_bool Try.underlying4 _), (trodAll_cons_mk (shut_int Try.underlying3 w0) (trodAll_cons_mk (shut_int Try.underlying3 w1) trodAll_mk0)), rfl, bel.frame _, fun h => by cases h⟩

theorem over : Rows.meterExactRow.holds Try.pinned (OpenSpec.ofChange Rows.meterExactSpec) :=
  OpenClaim.holds_of_wide 5 Try.f5 rfl rfl rfl rfl rfl rfl rfl ⟨rfl, rfl, rfl, rfl, rfl⟩ rfl rfl rfl rfl rfl (by kernel_rfl) Try.func5 (by kernel_rfl)
    (of_decide_eq_true (by kernel_rfl)) (by unfold Func.isWrapper; first | (rw [if_pos (by decide +kernel)]; kernel_rfl) | (rw [if_neg (by decide +kernel)]; exact ⟨rfl, rfl⟩))
    (fun os started H enc _ => lifted os started H enc)

end Go.Proofs.Ytmmileafiainnaa.meterExact
namespace Go.Proofs.Ytmmileafiainnaa
/-- The statement. -/
theorem meterExact_holds : Rows.MeterExactSaid := meterExact.over
#print axioms meterExact_holds
end Go.Proofs.Ytmmileafiainnaa
