/- Pool: Rest, Shut, dial. -/
import Derived.Test.YtlaigjapnmgjeaaPoF
namespace Go.Proofs.Ytlaigjapnmgjeaa
open Go.RowKit
set_option linter.unusedVariables false

theorem lookH_some {q : HF} {h st : Int} (hs : (lookH (q h)).2 = st) (h0 : st ≠ 0) : ∃ x1, q h = some (x1, st) := by
  cases hq : q h with
  | none => rw [hq] at hs; exact absurd hs.symm h0
  | some x =>
    rw [hq] at hs
    obtain ⟨y1, y2⟩ := x
    have : y2 = st := hs
    subst this
    exact ⟨y1, rfl⟩
set_option maxRecDepth 100000 in
set_option maxHeartbeats 1000000 in
theorem plrest_any (h : Int) (pb mk n N : Nat) (most last : Int) (q : HF) (rs : List Int) (v : Value) (w : World) (H : PL w pb mk n N most last q rs v) (hh : InR h) (hn : n ≤ 1000000) (hl : rs.length ≤ 1000000) : Calls Try.prog 13 #[.pointer (some ⟨pb, 0, none⟩), .int .i64 h] w fun e w' =>
    (∃ x1 v', q h = some (x1, 2) ∧ e = .returned (.bool true) ∧ PL w' pb mk (n + 1) N most last (updI q h (some (x1, 3))) (rs ++ [h]) v' ∧ PX pb mk v v' w w') ∨ ((lookH (q h)).2 ≠ 2 ∧ e = .returned (.bool false) ∧ PL w' pb mk (n + 1) N most last q rs v ∧ PX pb mk v v w w') := by
  by_cases hs : (lookH (q h)).2 = 2
  · obtain ⟨x1, hx⟩ := lookH_some hs (by decide)
    have HMV := hidE (plmove_yes h 2 3 x1 pb mk n N most last q rs v w H hh hx hn)
    have HX := hidE hx
    clear H hs hx
    go_enter Try.func13, Try.ntmps13
    go_wp2_with fail
    refine HMV.out.mono ?_
    rintro e w1 ⟨rfl, H1, X1⟩
    have c3 := H1.c3
    obtain ⟨v2, w2, r2, R2, ⟨a2, c2, hv2⟩, s2, o2, t2, u2, K2, W2⟩ := ro_append H1.ro h hl
    have hng := H1.ng
    have hb2 := K2 pb H1.lt hng.1
    have hm2 := K2 mk H1.hm.lt hng.2
    have z3 : w2.frozen? ⟨pb, 3, none⟩ = false := by simp [World.frozen?, hb2, H1.bk]
    have d3 : w2.cell? ⟨pb, 3, none⟩ = some v := tblk_cell (hb2.trans H1.bk) rfl
    have X2 : PX pb mk v v2 w1 w2 := ⟨o2, t2, u2, s2, fun k hk _ _ hn => K2 k hk hn, W2⟩
    have HR : Hid (PL (w2.setCell ⟨pb, 3, none⟩ v2) pb mk (n + 1) N most last (updI q h (some (x1, 3))) (rs ++ [h]) v2 ∧ PX pb mk v v2 w (w2.setCell ⟨pb, 3, none⟩ v2)) := ⟨H1.setR hb2 hm2 R2, (X1.trans X2).set _ _⟩
    obtain ⟨av, cv, hvv⟩ : ∃ av cv, v = .slice av rs.length cv := by
      rcases H1.ro with ⟨hv, hr⟩ | ⟨g, c, hv, _⟩
      · exact ⟨none, 0, by rw [hv, hr]; rfl⟩
      · exact ⟨_, c, hv⟩
    subst hv2 hvv
    clear HMV H1 X1 R2 K2 W2 hng hb2 hm2 X2 s2 o2 t2 u2
    go_wp2_with (at_builtin; refine wpList_append_run2 rfl _ _ 76 76 rfl _ _ _ w2 rfl rfl r2 ?_)
    go_ret
    exact .inl ⟨x1, _, HX.out, rfl, HR.out.1, HR.out.2⟩
  · have HMV := hidE (plmove_no h 2 3 pb mk n N most last q rs v w H hh hs)
    have HS := hidE hs
    have HH := hidE H
    clear H hs
    go_enter Try.func13, Try.ntmps13
    go_wp2_with fail
    refine HMV.out.mono ?_
    rintro e w1 ⟨rfl, B1⟩
    have HR : Hid (PL w1 pb mk (n + 1) N most last q rs v ∧ PX pb mk v v w w1) := ⟨(HH.out.keep B1).mono (Nat.le_succ _), (PX.refl _ _ _ _).bel B1⟩
    clear HMV B1 HH
    go_wp2
    go_ret
    exact .inr ⟨HS.out, rfl, HR.out.1, HR.out.2⟩
set_option maxRecDepth 100000 in
set_option maxHeartbeats 1000000 in
theorem plshut_any (h : Int) (pb mk n N : Nat) (most last : Int) (q : HF) (rs : List Int) (v : Value) (w : World) (H : PL w pb mk n N most last q rs v) (hh : InR h) (hst : ∀ g x, q g = some x → x.2 ≠ 0) (hl : rs.length ≤ 1000000) : Calls Try.prog 15 #[.pointer (some ⟨pb, 0, none⟩), .int .i64 h] w fun e w' =>
    ((q h).isSome = true ∧ e = .returned (.bool true) ∧ ∃ v', PL w' pb mk n (N - 1) most last (updI q h none) (rs.filter (butH h)) v' ∧ PX pb mk v v' w w') ∨ (q h = none ∧ e = .returned (.bool false) ∧ w = w') := by
  have HS := hidE (plstate_any h pb mk n N most last q rs v w H hh)
  cases hq : q h with
  | none =>
    have e0 : (lookH (q h)).2 = 0 := by rw [hq]; rfl
    rw [e0] at HS
    clear H e0
    go_enter Try.func15, Try.ntmps15
    go_wp2_with fail
    refine HS.out.mono ?_
    rintro e w1 ⟨rfl, rfl⟩
    clear HS
    go_wp2
    go_ret
    exact .inr ⟨(by first | exact rfl | exact True.intro), rfl, rfl⟩
  | some x =>
    have e0 : (lookH (q h)).2 = x.2 := by rw [hq]; rfl
    rw [e0] at HS
    have d0 : (x.2 == 0) = false := by have := hst h x hq; simpa using this
    obtain ⟨w2, r2, M2, g2⟩ := H.hm.del hh
    simp only [hq, Option.isSome_some, if_true] at M2
    have H2 := H.setM M2 g2 (fun g y hy => by
      by_cases e : g = h
      · rw [e, updI_same] at hy; cases hy
      · rw [updI_other _ _ e] at hy; exact H.qs g y hy)
    have c2 := H.c2
    have HF := hidE (plforget_any h pb mk n (N - 1) most last (updI q h none) rs v w2 H2 hl)
    have HX := hidE (PX.ofMap (pb := pb) (v := v) g2)
    clear H e0 M2 g2 H2 hq hst
    generalize x.2 = st at *
    go_enter Try.func15, Try.ntmps15
    go_wp2_with fail
    refine HS.out.mono ?_
    rintro e w1 ⟨rfl, rfl⟩
    clear HS
    go_wp2_with (at_delete; refine wpList_delete_run _ rfl _ _ 75 3 rfl _ _ w2 rfl rfl r2 ?_)
    refine HF.out.mono ?_
    rintro e w3 ⟨rfl, v', H3, X3⟩
    have HR : Hid (PL w3 pb mk n (N - 1) most last (updI q h none) (rs.filter (butH h)) v' ∧ PX pb mk v v' w w3) := ⟨H3, HX.out.trans X3⟩
    clear HF H3 X3 HX
    go_wp2
    go_ret
    exact .inl ⟨(by first | exact rfl | exact True.intro), rfl, v', HR.out.1, HR.out.2⟩
set_option maxRecDepth 100000 in
set_option maxHeartbeats 1000000 in
theorem pldial_any (aim : KS) (pb mk n N : Nat) (most last : Int) (q : HF) (rs : List Int) (v : Value) (w : World) (H : PL w pb mk n N most last q rs v) (ha : aim.size ≤ 281474976710656) (hn : n ≤ 1000000) (hq : q (last + 1) = none) (hla : 0 ≤ last ∧ last ≤ 1000000) : Calls Try.prog 35 #[.pointer (some ⟨pb, 0, none⟩), .string aim] w fun e w' => e = .returned (.int .i64 (last + 1)) ∧ PL w' pb mk (n + 1) (N + 1) most (last + 1) (updI q (last + 1) (some (aim, 1))) rs v ∧ PX pb mk v v w w' := by
  obtain ⟨la, hlaE⟩ : ∃ la, la = last + 1 := ⟨_, rfl⟩
  rw [← hlaE] at hq ⊢
  have f1 : IntKind.i64.wrap (last + 1) = la := by rw [hlaE, IntKind.wrap_i64]; omega
  have hli : InR la := by rw [hlaE]; unfold InR; omega
  have c1 := H.c1
  have z1 := H.z 1
  have H1 : PL (w.setCell ⟨pb, 1, none⟩ (.int .i64 la)) pb mk n N most la q rs v := ⟨pool_set1 H.bk, H.hm.move (Below.heap_setCell _ _ _ _ (fun e => H.nm e.symm)), H.ro.move fun g hg => Below.heap_setCell _ _ _ _ (fun e : g = pb => H.ng.1 (by rw [← e]; exact hg)), H.qs⟩
  have X1 : PX pb mk v v w (w.setCell ⟨pb, 1, none⟩ (.int .i64 la)) := (PX.refl _ _ _ _).set _ _
  have hqs : ∀ g y, updI q la (some (aim, 1)) g = some y → y.1.size ≤ 281474976710656 := fun g y hy => by
    by_cases e : g = la
    · rw [e, updI_same] at hy
      rw [← Option.some.inj hy]; exact ha
    · rw [updI_other _ _ e] at hy
      exact H.qs g y hy
  generalize hW1 : w.setCell ⟨pb, 1, none⟩ (.int .i64 la) = w1 at *
  have d1 := H1.c1
  have d2 := H1.c2
  have HC : Hid (∀ W, Below w1.heap.size w1 W → Calls Try.prog 39 #[.string aim] W fun e w6 => e = .returned (.string aim) ∧ (w6.cell? ⟨pb, 1, none⟩ = some (.int .i64 la) ∧ w6.cell? ⟨pb, 2, none⟩ = some (.map (some mk))) ∧ ∃ w7, (Instr.mapUpdate 75 (.map (some mk)) (.int .i64 la) (.agg #[.string aim, .int .i64 1])).run Try.prog w6 = .ok () w7 ∧ (w7.cell? ⟨pb, 1, none⟩ = some (.int .i64 la) ∧ w7.cell? ⟨pb, 2, none⟩ = some (.map (some mk))) ∧ Hid (PL w7 pb mk (n + 1) (N + 1) most la (updI q la (some (aim, 1))) rs v ∧ PX pb mk v v w w7)) := fun W bW => by
    refine (clone_any aim W ha).mono ?_
    rintro e w6 ⟨rfl, B6⟩
    have H6 := (H1.keep bW).keep B6
    obtain ⟨w7, r7, M7, g7⟩ := H6.hm.put (by unfold maxLen; omega) hli aim 1
    rw [hq] at M7
    have M7' : HM w7 mk (n + 1) (N + 1) (updI q la (some (aim, 1))) := M7
    have H7 := H6.setM M7' g7 hqs
    exact ⟨rfl, ⟨H6.c1, H6.c2⟩, w7, r7, ⟨H7.c1, H7.c2⟩, H7, ((X1.bel bW).bel B6).trans (PX.ofMap g7)⟩
  have U0 : Below w1.heap.size w1 w1 := Below.refl _ _
  clear H H1 X1 hqs hlaE hq
  go_enter Try.func35, Try.ntmps35
  go_wp2_with fail
  go_region_held3 (fun W => W.cell? ⟨pb, 1, none⟩ = some (.int .i64 la) ∧ W.cell? ⟨pb, 2, none⟩ = some (.map (some mk))) (go_keep) (first | (go_at_call 39; refine (HC.out _ (by first | assumption | exact U0.drew)).mono ?_; rintro e w6 ⟨rfl, hS, w7, r7, hS7, HR⟩) | (refine step_put rfl _ _ _ 75 rfl _ _ _ w7 rfl rfl rfl r7 ?_))
  go_wp2
  go_ret
  exact ⟨rfl, HR.out.1, HR.out.2⟩
end Go.Proofs.Ytlaigjapnmgjeaa
