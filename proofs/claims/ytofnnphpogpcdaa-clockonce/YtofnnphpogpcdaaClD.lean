/- container/heap's up and down over clock's queue. -/
import Derived.Test.YtofnnphpogpcdaaClC
namespace Go.Proofs.Ytofnnphpogpcdaa
open Go.RowKit
set_option linter.unusedVariables false

theorem CQ.drewN {w : World} {cb mk : Nat} {now : Int} {v : Value} {E : List Mo} (h : CQ w cb mk now v E) (n : Nat) : CQ (w.drewN n) cb mk now v E := ⟨h.bk, h.rq, h.mo, h.nd⟩
theorem CX.drewN {S : Nat → Prop} {u w : World} (h : CX S u w) (n : Nat) : CX S u (w.drewN n) := ⟨h.os, h.tape, h.output, h.size, h.block⟩
theorem CX.own {v : Value} {E E' : List Mo} {u w : World} (h : CX (OwnQ v E') u w) (p : E'.Perm E) : CX (OwnQ v E) u w := h.mono fun k hk => by
  rcases hk with hk | ⟨x, hx, e⟩
  · exact .inl hk
  · exact .inr ⟨x, p.mem_iff.1 hx, e⟩
/-- What the heap's helpers keep. -/
structure HK (w : World) (cb mk : Nat) (now : Int) (v : Value) (E : List Mo) (n : Nat) (E' : List Mo) (W : World) : Prop where
  q : CQ W cb mk now v E'
  p : E'.Perm E
  o : ∀ k, n ≤ k → atM E' k = atM E k
  x : CX (OwnQ v E) w W
theorem HK.refl {w : World} {cb mk : Nat} {now : Int} {v : Value} {E : List Mo} (h : CQ w cb mk now v E) (n : Nat) : HK w cb mk now v E n E w := ⟨h, List.Perm.refl _, fun _ _ => rfl, CX.refl _ _⟩
theorem HK.len {w W : World} {cb mk n : Nat} {now : Int} {v : Value} {E E' : List Mo} (h : HK w cb mk now v E n E' W) : E'.length = E.length := h.p.length_eq
theorem HK.less {w W : World} {cb mk n : Nat} {now : Int} {v : Value} {E E' : List Mo} (h : HK w cb mk now v E n E' W) (i j : Nat) (hi : i < E.length) (hj : j < E.length) (r : Bool) (hr : ltM (atM E' i) (atM E' j) = r) :
    Calls Try.prog 44 #[v, .int .i64 i, .int .i64 j] W fun e W' => e = .returned (.bool r) ∧ HK w cb mk now v E n E' W' := by
  subst hr
  refine (cqless_any cb mk now v E' i j (by rw [h.len]; exact hi) (by rw [h.len]; exact hj) W h.q).mono ?_
  rintro e W' ⟨rfl, k, rfl⟩
  exact ⟨rfl, h.q.drewN k, h.p, h.o, h.x.drewN k⟩
theorem HK.swap {w W : World} {cb mk n : Nat} {now : Int} {v : Value} {E E' : List Mo} (h : HK w cb mk now v E n E' W) (i j : Nat) (hi : i < n) (hj : j < n) (hn : n ≤ E.length) :
    Calls Try.prog 45 #[v, .int .i64 i, .int .i64 j] W fun e W' => e = .returned (.tuple #[]) ∧ HK w cb mk now v E n (swL E' i j) W' := by
  have hi' : i < E'.length := by rw [h.len]; omega
  have hj' : j < E'.length := by rw [h.len]; omega
  refine (cqswap_any cb mk now v E' i j hi' hj' W h.q).mono ?_
  rintro e W' ⟨rfl, k, x⟩
  refine ⟨rfl, k, (swL_perm _ _ _ hi' hj').trans h.p, fun q hq => ?_, h.x.trans (x.own h.p)⟩
  rw [atM_sw _ _ _ hi' hj', swH_o _ _ _ _ (by omega) (by omega)]
  exact h.o q hq
theorem HK.c2 {w W : World} {cb mk n : Nat} {now : Int} {v : Value} {E E' : List Mo} (h : HK w cb mk now v E n E' W) : W.cell? ⟨cb, 2, none⟩ = some v := h.q.c2
set_option maxRecDepth 100000 in
set_option maxHeartbeats 1000000 in
theorem ckup_any (cb mk : Nat) (now : Int) (v : Value) (E : List Mo) (n j0 : Nat) (hn : n ≤ E.length) (hj : j0 < n) (hsz : E.length ≤ 1000000) (w : World) (h : CQ w cb mk now v E) (hu : UpI n (atM E) j0) : Calls Try.prog 26 #[.iface 61 (.pointer (some ⟨cb, 2, none⟩)), .int .i64 j0] w fun e w' => e = .returned (.tuple #[]) ∧ ∃ E', HK w cb mk now v E n E' w' ∧ HpOk n (atM E') := by
  have H0 := hidE (HK.refl h n)
  have HU := hidE hu
  have HN := hidE hn
  have HZ := hidE hsz
  clear h hu hn hsz
  go_enter Try.func26, Try.ntmps26
  go_wp2_with fail
  go_loopw [1] (fun vj wr => ∃ (j : Nat) (E' : List Mo), j < n ∧ vj = .int .i64 j ∧ Hid (HK w cb mk now v E n E' wr) ∧ Hid (UpI n (atM E') j)) (fun vj _ => (intOf vj).toNat)
  case atStart => exact ⟨j0, E, hj, rfl, H0, HU⟩
  case round =>
    clear H0 HU hj
    obtain ⟨j, E', hj, rfl, H, HU⟩ := hrel
    have c2 := H.out.c2
    cases j with
    | zero =>
      clear c2
      go_wp2
      go_end0
      exact ⟨rfl, E', H.out, up_zero HU.out⟩
    | succ p =>
      have hle := HN.out
      have hz := HZ.out
      obtain ⟨J, hJ⟩ : ∃ J : Nat, J = p + 1 := ⟨_, rfl⟩
      obtain ⟨q, hq⟩ : ∃ q : Nat, q = p / 2 := ⟨_, rfl⟩
      have HP : Hid (par J = q ∧ 0 < J ∧ q < J) := by rw [hJ, hq]; unfold par; exact ⟨by omega, by omega, by omega⟩
      rw [← hJ] at hj HU ⊢
      have f1 : IntKind.i64.wrap ((J : Int) - 1) = (p : Int) := by rw [IntKind.wrap_i64]; omega
      have f2 : Int.tdiv (p : Int) 2 = (q : Int) := by rw [hq]; exact (Int.ofNat_tdiv p 2).symm ▸ rfl
      have f3 : IntKind.i64.wrap (q : Int) = (q : Int) := by rw [IntKind.wrap_i64]; omega
      have f4 : ((q : Int) == (J : Int)) = false := by simp; omega
      have hl := mt_less 192 cb 2 wr v c2
      have HJ := hidE hj
      clear hJ hq hle hz hj c2
      cases hlt : ltM (atM E' J) (atM E' q) with
      | false =>
        have HL := hidE (H.out.less J q (by have := HN.out; have := HJ.out; omega) (by have := HN.out; have := HJ.out; have := HP.out; omega) _ hlt)
        have HD : Hid (HpOk n (atM E')) := up_done HU.out (by rw [HP.out.1]; exact hlt)
        clear hlt H
        go_wp2_with fail
        refine HL.out.mono ?_
        rintro e w2 ⟨rfl, H2⟩
        have H3 := hidE H2
        clear HL H2 hl
        go_wp2
        go_end0
        exact ⟨rfl, E', H3.out, HD.out⟩
      | true =>
        have HL := hidE (H.out.less J q (by have := HN.out; have := HJ.out; omega) (by have := HN.out; have := HJ.out; have := HP.out; omega) _ hlt)
        have HLen : Hid (E'.length = E.length) := H.out.len
        have HD : Hid (UpI n (atM (swL E' q J)) q) := by
          rw [Hid, atM_sw _ _ _ (by rw [HLen.out]; have := HN.out; have := HJ.out; have := HP.out; omega) (by rw [HLen.out]; have := HN.out; have := HJ.out; omega)]
          have := up_step HU.out HP.out.2.1 HJ.out (by rw [HP.out.1]; exact hlt)
          rwa [HP.out.1] at this
        clear hlt H
        go_wp2_with fail
        refine HL.out.mono ?_
        rintro e w2 ⟨rfl, H2⟩
        have hs := mt_swap 192 cb 2 w2 v H2.c2
        have HS := hidE (H2.swap q J (by have := HJ.out; have := HP.out; omega) HJ.out HN.out)
        clear HL H2 hl
        go_wp2_with fail
        refine HS.out.mono ?_
        rintro e w3 ⟨rfl, H3⟩
        have H4 := hidE H3
        clear HS H3 hs
        go_wp2
        go_roundw
        case rel => exact ⟨q, _, by have := HJ.out; have := HP.out; omega, rfl, H4, HD⟩
        case measure => have := HP.out; simp [intOf]; omega
end Go.Proofs.Ytofnnphpogpcdaa
