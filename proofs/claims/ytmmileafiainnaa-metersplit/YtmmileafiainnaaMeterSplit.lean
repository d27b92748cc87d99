/- Whatever the three numbers, MeterSplit answers true: what is taken in two goes is held as if it were taken in one, and given back in two it is gone; no condition. -/
import Derived.Test.YtmmileafiainnaaRows
import Derived.WalkKit
import Derived.ProofKit
import Derived.OpenShut
import Derived.Deep.DeepCutAuto
import Derived.Test.YtmmileafiainnaaMeterC
namespace Go.Proofs.Ytmmileafiainnaa.meterSplit
open Go.ChangeShapes Go.WideShapes Go.ChangeAt Go.RowKit
set_option linter.unusedVariables false      -- a walk need not use every 'w<i>' (that an integer argument fits its kind)

theorem own : ownKnob Try.prog.godebug = none := by kernel_rfl

/-- What is taken, of what was asked for. -/
def clp (a : Int) : Int := min (max a 0) 2199023255552
theorem clp3 (a : Int) : (a < 0 ∧ clp a = 0) ∨ (0 ≤ a ∧ a ≤ 2199023255552 ∧ clp a = a) ∨ (2199023255552 < a ∧ clp a = 2199023255552) := by
  unfold clp; omega

theorem clp_bd (a : Int) : 0 ≤ clp a ∧ clp a ≤ 2199023255552 := by unfold clp; omega
theorem give_in (b : Nat) (m h p n h' : Int) (w : World) (hm : IsM w b m h p) (h0 : 0 ≤ h) (h1 : h ≤ m) (h2 : m ≤ 1099511627776) (c : 0 ≤ n) (d : n ≤ h) (f : h - n = h') :
    Calls Try.prog 15 #[.pointer (some ⟨b, 0, none⟩), .int .i64 n] w fun e w' => e = .returned (.int .i64 n) ∧ (∃ p', IsM w' b m h' p') ∧ But b w w' :=
  (give_ok b m h p n h' _ w hm h0 h1 h2 c d f rfl).mono fun _ _ ⟨k1, k2, k3⟩ => ⟨k1, ⟨_, k2⟩, k3⟩

set_option maxRecDepth 100000 in
set_option maxHeartbeats 4000000 in
theorem walk (a0 : Int) (a1 : Int) (a2 : Int) (w : World) :
    Calls Try.prog 7 #[.int .i64 a0, .int .i64 a1, .int .i64 a2] w fun e w' => e = .returned (.bool true) ∧ Below w.heap.size w w' := by
  have bm := mst_bd a0
  go_enter Try.func7, Try.ntmps7
  go_wp2_with fail
  refine (new_m a0 _).mono ?_
  rintro e w1 ⟨b, rfl, hb, hm, hB⟩
  go_wp2_with fail
  refine (new_m a0 _).mono ?_
  rintro e w2 ⟨c, rfl, hc, hn, hC⟩
  have HB : Hid (w.heap.size = b) := hb
  have HC : Hid (w1.heap.size = c) := hc
  have hlt := hm.lt
  have hne : b ≠ c := by omega
  have hne' : c ≠ b := by omega
  have hm2 := Below.isM hC hlt hm
  have hB2 := hB.trans (hC.mono hB.size)
  clear hb hc hm hC hB
  go_wp2_with fail
  refine (alive_any _).mono ?_
  rintro e w3 ⟨rfl, hA⟩
  have hm3 := Below.isM hA hm2.lt hm2
  have hn3 := Below.isM hA hn.lt hn
  have hB3 := hB2.trans (hA.mono hB2.size)
  clear hA hm2 hn hB2
  go_upto_region 4 with fail
  go_cut [1] (fun x wx => x = .int .i64 (clp a1) ∧ wx = w3)
  case first =>
    rcases clp3 a1 with ⟨k, e⟩ | ⟨k, k', e⟩ | ⟨k, e⟩
    all_goals
      have E : Hid (clp a1 = _) := e
      clear e
      go_wp2
      go_meet
      exact ⟨by rw [E.out], rfl⟩
  case rest =>
    obtain ⟨rfl, rfl⟩ := hcut
    go_upto_region 5 with fail
    go_cut [2] (fun x wx => x = .int .i64 (clp a2) ∧ wx = wc)
    case first =>
      rcases clp3 a2 with ⟨k, e⟩ | ⟨k, k', e⟩ | ⟨k, e⟩
      all_goals
        have E : Hid (clp a2 = _) := e
        clear e
        go_wp2
        go_meet
        exact ⟨by rw [E.out], rfl⟩
    case rest =>
      obtain ⟨rfl, rfl⟩ := hcut
      have ba := clp_bd a1
      have bb := clp_bd a2
      generalize clp a1 = x at *
      generalize clp a2 = y at *
      generalize mst a0 = M at *
      obtain ⟨bm0, bm1⟩ := bm
      obtain ⟨ba0, ba1⟩ := ba
      obtain ⟨bb0, bb1⟩ := bb
      rcases Int.lt_or_le M x with k | k
      · go_wp2_with fail
        refine (take_nok b _ _ _ _ _ hm3 (by omega) (by omega) (by omega) (.inr (by omega))).mono ?_
        rintro e w4 ⟨rfl, hm4, hb4⟩
        have hn4 := hb4.isM hne' hn3
        go_wp2_with fail
        refine (take_nok c _ _ _ _ _ hn4 (by omega) (by omega) (by omega) (.inr (by omega))).mono ?_
        rintro e w5 ⟨rfl, hn5, hb5⟩
        have hm5 := hb5.isM hne hm4
        go_wp2_with fail
        refine (held_any b _ _ _ _ hm5).mono ?_
        rintro e w6 ⟨rfl, hm6, hb6⟩
        have hn6 := hb6.isM hne' hn5
        go_wp2_with fail
        refine (held_any c _ _ _ _ hn6).mono ?_
        rintro e w7 ⟨rfl, hn7, hb7⟩
        have hm7 := hb7.isM hne hm6
        go_wp2_with fail
        refine (room_any b _ _ _ _ hm7 (by omega) (by omega) (by omega)).mono ?_
        rintro e w8 ⟨rfl, hm8, hb8⟩
        have hn8 := hb8.isM hne' hn7
        go_wp2_with fail
        refine (room_any c _ _ _ _ hn8 (by omega) (by omega) (by omega)).mono ?_
        rintro e w9 ⟨rfl, hn9, hb9⟩
        have hm9 := hb9.isM hne hm8
        go_wp2_with fail
        refine (held_any b _ _ _ _ hm9).mono ?_
        rintro e w10 ⟨rfl, hm10, hb10⟩
        go_wp2
        go_ret
        have hb := HB.out
        have hc := HC.out
        exact ⟨rfl, (((((((hB3.trans (hb4.below (by omega))).trans (hb5.below (by omega))).trans (hb6.below (by omega))).trans (hb7.below (by omega))).trans (hb8.below (by omega))).trans (hb9.below (by omega))).trans (hb10.below (by omega)))⟩
      · rcases Int.lt_or_le (M - x) y with l | l
        · go_wp2_with fail
          refine (take_ok b M 0 0 x x _ hm3 (by omega) (by omega) (by omega) (by omega) (by omega) (by omega)).mono ?_
          rintro e w4 ⟨rfl, hm4, hb4⟩
          have hn4 := hb4.isM hne' hn3
          go_wp2_with fail
          refine (take_nok b _ _ _ _ _ hm4 (by omega) (by omega) (by omega) (.inr (by omega))).mono ?_
          rintro e w5 ⟨rfl, hm5, hb5⟩
          have hn5 := hb5.isM hne' hn4
          go_wp2_with fail
          refine (give_in b M x 0 x 0 _ hm5 (by omega) (by omega) (by omega) (by omega) (by omega) (by omega)).mono ?_
          rintro e w6 ⟨rfl, ⟨q, hm6⟩, hb6⟩
          have hn6 := hb6.isM hne' hn5
          go_wp2_with fail
          refine (take_nok c _ _ _ _ _ hn6 (by omega) (by omega) (by omega) (.inr (by omega))).mono ?_
          rintro e w7 ⟨rfl, hn7, hb7⟩
          have hm7 := hb7.isM hne hm6
          go_wp2_with fail
          refine (held_any b _ _ _ _ hm7).mono ?_
          rintro e w8 ⟨rfl, hm8, hb8⟩
          have hn8 := hb8.isM hne' hn7
          go_wp2_with fail
          refine (held_any c _ _ _ _ hn8).mono ?_
          rintro e w9 ⟨rfl, hn9, hb9⟩
          have hm9 := hb9.isM hne hm8
          go_wp2_with fail
          refine (room_any b _ _ _ _ hm9 (by omega) (by omega) (by omega)).mono ?_
          rintro e w10 ⟨rfl, hm10, hb10⟩
          have hn10 := hb10.isM hne' hn9
          go_wp2_with fail
          refine (room_any c _ _ _ _ hn10 (by omega) (by omega) (by omega)).mono ?_
          rintro e w11 ⟨rfl, hn11, hb11⟩
          have hm11 := hb11.isM hne hm10
          go_wp2_with fail
          refine (held_any b _ _ _ _ hm11).mono ?_
          rintro e w12 ⟨rfl, hm12, hb12⟩
          go_wp2
          go_ret
          have hb := HB.out
          have hc := HC.out
          exact ⟨rfl, (((((((((hB3.trans (hb4.below (by omega))).trans (hb5.below (by omega))).trans (hb6.below (by omega))).trans (hb7.below (by omega))).trans (hb8.below (by omega))).trans (hb9.below (by omega))).trans (hb10.below (by omega))).trans (hb11.below (by omega))).trans (hb12.below (by omega)))⟩
        · go_wp2_with fail
          refine (take_ok b M 0 0 x x _ hm3 (by omega) (by omega) (by omega) (by omega) (by omega) (by omega)).mono ?_
          rintro e w4 ⟨rfl, hm4, hb4⟩
          have hn4 := hb4.isM hne' hn3
          go_wp2_with fail
          refine (take_ok b M x 0 y (x + y) _ hm4 (by omega) (by omega) (by omega) (by omega) (by omega) (by omega)).mono ?_
          rintro e w5 ⟨rfl, hm5, hb5⟩
          have hn5 := hb5.isM hne' hn4
          go_wp2_with fail
          refine (take_ok c M 0 0 (x + y) (x + y) _ hn5 (by omega) (by omega) (by omega) (by omega) (by omega) (by omega)).mono ?_
          rintro e w7 ⟨rfl, hn7, hb7⟩
          have hm7 := hb7.isM hne hm5
          go_wp2_with fail
          refine (held_any b _ _ _ _ hm7).mono ?_
          rintro e w8 ⟨rfl, hm8, hb8⟩
          have hn8 := hb8.isM hne' hn7
          go_wp2_with fail
          refine (held_any c _ _ _ _ hn8).mono ?_
          rintro e w9 ⟨rfl, hn9, hb9⟩
          have hm9 := hb9.isM hne hm8
          go_wp2_with fail
          refine (room_any b _ _ _ _ hm9 (by omega) (by omega) (by omega)).mono ?_
          rintro e w10 ⟨rfl, hm10, hb10⟩
          have hn10 := hb10.isM hne' hn9
          go_wp2_with fail
          refine (room_any c _ _ _ _ hn10 (by omega) (by omega) (by omega)).mono ?_
          rintro e w11 ⟨rfl, hn11, hb11⟩
          have hm11 := hb11.isM hne hm10
          go_wp2_with fail
          refine (give_in b M (x + y) 0 x y _ hm11 (by omega) (by omega) (by omega) (by omega) (by omega) (by omega)).mono ?_
          rintro e w12 ⟨rfl, ⟨q, hm12⟩, hb12⟩
          have hn12 := hb12.isM hne' hn11
          go_wp2_with fail
          refine (give_in b M y q y 0 _ hm12 (by omega) (by omega) (by omega) (by omega) (by omega) (by omega)).mono ?_
          rintro e w13 ⟨rfl, ⟨q', hm13⟩, hb13⟩
          have hn13 := hb13.isM hne' hn12
          go_wp2_with fail
          refine (give_in c M (x + y) 0 (x + y) 0 _ hn13 (by omega) (by omega) (by omega) (by omega) (by omega) (by omega)).mono ?_
          rintro e w14 ⟨rfl, ⟨q'', hn14⟩, hb14⟩
          have hm14 := hb14.isM hne hm13
          go_wp2_with fail
          refine (held_any b _ _ _ _ hm14).mono ?_
          rintro e w15 ⟨rfl, hm15, hb15⟩
          have hn15 := hb15.isM hne' hn14
          go_wp2_with fail
          refine (held_any c _ _ _ _ hn15).mono ?_
          rintro e w16 ⟨rfl, hn16, hb16⟩
          go_wp2
          go_ret
          have hb := HB.out
          have hc := HC.out
          exact ⟨rfl, ((((((((((((hB3.trans (hb4.below (by omega))).trans (hb5.below (by omega))).trans (hb7.below (by omega))).trans (hb8.below (by omega))).trans (hb9.below (by omega))).trans (hb10.below (by omega))).trans (hb11.below (by omega))).trans (hb12.below (by omega))).trans (hb13.below (by omega))).trans (hb14.below (by omega))).trans (hb15.below (by omega))).trans (hb16.below (by omega)))⟩

set_option maxRecDepth 100000 in
theorem lifted (os : Os) (started : os.Started) (H : Type) (enc : TypeId × Value → H) :
    ReturnsInHanded {} Try.checked os 7 .any (Rows.meterSplitSpec.pre6 enc Try.prog Try.f7 Rows.meterSplitRow.domain false) (Rows.meterSplitSpec.post enc Try.prog Try.f7 false true false false) := by
  refine returnsInHanded_of_change (C := Try.checked) own started (by kernel_rfl) Try.func7
    (ChangeSpec.witness6 (enc := enc) (C := Try.checked) false ⟨#[], #[.int .i64 0, .int .i64 0, .int .i64 0], []⟩ 8 (by kernel_rfl) (by kernel_rfl) (by kernel_rfl) (by kernel_rfl)) ?_
  intro W base args ds gs before hval0 hW hcnd _
  have hval : ∀ (j : Nat) t v, Try.f7.params[j]? = some t → args[j]? = some v → Value.okWide Try.prog W .any base t v := hval0
  have hW' := hW
  obtain ⟨p, q, hA0, hV, rfl, hfz, hnd⟩ := hW
  have hA : DataW.TrodAll enc Try.prog W 0 (fun _ => true) true Try.f7.params.toList args.toList ds p := hA0
  rw [Try.params7] at hA hval
  obtain ⟨v0, vs0, d0, ds0, p0, q0, hargs, rfl, rfl, h0, r0⟩ := trodAll_cons hA
  obtain ⟨v1, vs1, d1, ds1, p1, q1, rfl, rfl, rfl, h1, r1⟩ := trodAll_cons r0
  obtain ⟨v2, vs2, d2, ds2, p2, q2, rfl, rfl, rfl, h2, r2⟩ := trodAll_cons r1
  obtain ⟨rfl, rfl, rfl⟩ := trodAll_nil r2
  obtain rfl : args = #[v0, v1, v2] := by cases args; simp_all
  obtain ⟨rfl, rfl⟩ := trodVars_none hV
  obtain ⟨a0, rfl, rfl, rfl, w0⟩ := open_int Try.underlying3 (hval 0 3 v0 rfl rfl) h0
  obtain ⟨a1, rfl, rfl, rfl, w1⟩ := open_int Try.underlying3 (hval 1 3 v1 rfl rfl) h1
  obtain ⟨a2, rfl, rfl, rfl, w2⟩ := open_int Try.underlying3 (hval 2 3 v2 rfl rfl) h2
  clear hA0 hval0
  simp only [List.append_nil] at hW'
  refine (walk a0 a1 a2 W).mono fun e W' ⟨he, bel⟩ => ?_
  subst he
  exact ⟨_, rfl, _, _, _, [], _, [], hW', trodAll_mk1 (shut_bool Try.underlying4 _), (trodAll_cons_mk (shut_int Try.underlying3 w0) (trodAll_cons_mk (shut_int Try.underlying3 w1) (trodAll_cons_mk (shut_int Try.underlying3 w2) trodAll_mk0))), rfl, bel.frame _, fun h => by cases h⟩

theorem over : Rows.meterSplitRow.holds Try.pinned (OpenSpec.ofChange Rows.meterSplitSpec) :=
  OpenClaim.holds_of_wide 7 Try.f7 rfl rfl rfl rfl rfl rfl rfl ⟨rfl, rfl, rfl, rfl, rfl⟩ rfl rfl rfl rfl rfl (by kernel_rfl) Try.func7 (by kernel_rfl)
    (of_decide_eq_true (by kernel_rfl)) (by unfold Func.isWrapper; first | (rw [if_pos (by decide +kernel)]; kernel_rfl) | (rw [if_neg (by decide +kernel)]; exact ⟨rfl, rfl⟩))
    (fun os started H enc _ => lifted os started H enc)

end Go.Proofs.Ytmmileafiainnaa.meterSplit
namespace Go.Proofs.Ytmmileafiainnaa
/-- The statement. -/
theorem meterSplit_holds : Rows.MeterSplitSaid := meterSplit.over
#print axioms meterSplit_holds
end Go.Proofs.Ytmmileafiainnaa
