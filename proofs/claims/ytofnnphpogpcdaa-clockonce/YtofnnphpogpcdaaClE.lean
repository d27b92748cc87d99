/- container/heap's down over clock's queue (written by cle.py). -/
import Derived.Test.YtofnnphpogpcdaaClD
namespace Go.Proofs.Ytofnnphpogpcdaa
open Go.RowKit
set_option linter.unusedVariables false

structure DD (n : Nat) (H : MoF) (i0 i : Nat) (m : Bool) : Prop where
  mm : decide (i0 < i) = m
  d : m = true → DnI n H i
  s : m = false → i = i0
  b : BoI n H i
theorem DD.leaf {n : Nat} {H : MoF} {i0 i : Nat} {m : Bool} (h : DD n H i0 i m) (k : n ≤ 2 * i + 1) : (m = true → HpOk n H) ∧ (m = false → UpI n H i0) :=
  ⟨fun e => dn_leaf (h.d e) k, fun e => by rw [← h.s e]; exact bo_leaf h.b k⟩
theorem DD.stop {n : Nat} {H : MoF} {i0 i j : Nat} {m : Bool} (h : DD n H i0 i m) (k : SmC n H i j) (l : ltM (H j) (H i) = false) : (m = true → HpOk n H) ∧ (m = false → UpI n H i0) :=
  ⟨fun e => dn_stop (h.d e) k l, fun e => by rw [← h.s e]; exact bo_stop h.b k l⟩
theorem DD.step {n : Nat} {H : MoF} {i0 i j : Nat} {m : Bool} (h : DD n H i0 i m) (k : SmC n H i j) (l : ltM (H j) (H i) = true) : DD n (swH H i j) i0 j true := by
  have hd := dn_step h.b k l
  have hm := h.mm
  have hs := h.s
  refine ⟨decide_eq_true ?_, fun _ => hd, (fun e => by cases e), hd.bo⟩
  have := k.par.2.1
  cases m with
  | true => have := of_decide_eq_true hm; omega
  | false => have := hs rfl; omega
set_option maxRecDepth 100000 in
set_option maxHeartbeats 4000000 in
theorem ckdown_any (cb mk : Nat) (now : Int) (v : Value) (E : List Mo) (n i0 : Nat) (hn : n ≤ E.length) (hi0 : i0 ≤ 1000000) (hsz : E.length ≤ 1000000) (w : World) (h : CQ w cb mk now v E) (hb : BoI n (atM E) i0) : Calls Try.prog 25 #[.iface 61 (.pointer (some ⟨cb, 2, none⟩)), .int .i64 i0, .int .i64 n] w fun e w' => ∃ (m : Bool) (E' : List Mo), e = .returned (.bool m) ∧ HK w cb mk now v E n E' w' ∧ (m = true → HpOk n (atM E')) ∧ (m = false → UpI n (atM E') i0) := by
  have H0 := hidE (HK.refl h n)
  have HD0 : Hid (DD n (atM E) i0 i0 false) := ⟨decide_eq_false (Nat.lt_irrefl _), (fun e => by cases e), fun _ => rfl, hb⟩
  have HN := hidE hn
  have HZ := hidE hsz
  clear h hb hn hsz
  go_enter Try.func25, Try.ntmps25
  go_wp2_with fail
  go_loopw [7] (fun vi wr => ∃ (i : Nat) (m : Bool) (E' : List Mo), i ≤ 1000000 ∧ vi = .int .i64 i ∧ Hid (HK w cb mk now v E n E' wr) ∧ Hid (DD n (atM E') i0 i m)) (fun vi _ => n - (intOf vi).toNat)
  case atStart => exact ⟨i0, false, E, hi0, rfl, H0, HD0⟩
  case round =>
    clear H0 HD0 hi0
    obtain ⟨i, m, E', hi, rfl, H, HD⟩ := hrel
    have hd := HD.out.mm
    have hz : n ≤ 1000000 := by have := HN.out; have := HZ.out; omega
    obtain ⟨a, ha⟩ : ∃ a : Nat, a = 2 * i + 1 := ⟨_, rfl⟩
    obtain ⟨b, hb⟩ : ∃ b : Nat, b = 2 * i + 2 := ⟨_, rfl⟩
    have f0 : IntKind.i64.wrap (2 * (i : Int)) = 2 * (i : Int) := by rw [IntKind.wrap_i64]; omega
    have f1 : IntKind.i64.wrap (2 * (i : Int) + 1) = (a : Int) := by rw [IntKind.wrap_i64]; omega
    have f2 : IntKind.i64.wrap ((a : Int) + 1) = (b : Int) := by rw [IntKind.wrap_i64]; omega
    have HA : Hid (a = 2 * i + 1) := ha
    have HBB : Hid (b = 2 * i + 2) := hb
    have HI : Hid (i ≤ 1000000) := hi
    have c2 := H.out.c2
    by_cases hc : a < n
    · have g1 : decide (n ≤ a) = false := decide_eq_false (by omega)
      have g2 : decide ((a : Int) < 0) = false := decide_eq_false (by omega)
      have HC := hidE hc
      have HLen : Hid (E'.length = E.length) := H.out.len
      by_cases hc2 : b < n
      · have g3 : decide (b < n) = true := decide_eq_true (by omega)
        have hl := mt_less 192 cb 2 wr v c2
        have HC2 := hidE hc2
        cases hlt : ltM (atM E' b) (atM E' a) with
        | true =>
          have HL := hidE (H.out.less b a (by have := HN.out; omega) (by have := HN.out; omega) _ hlt)
          have HS : Hid (SmC n (atM E') i b) := ⟨hc2, .inr ⟨hb, by rw [← ha]; exact ltM_le hlt⟩⟩
          clear hlt ha hb hi hc hc2 hz c2 H
          go_wp2_with fail
          refine HL.out.mono ?_
          rintro e w2 ⟨rfl, H2⟩
          have hl2 := mt_less 192 cb 2 w2 v H2.c2
          have H := hidE H2
          clear HL hl H2
          have HIE : Hid (i < E.length ∧ b < E.length) := by have := HN.out; have := HA.out; have := HBB.out; have := HS.out.par; exact ⟨by omega, by omega⟩
          cases hlu : ltM (atM E' b) (atM E' i) with
          | false =>
            have HL := hidE (H.out.less b i HIE.out.2 HIE.out.1 _ hlu)
            have HF := hidE (HD.out.stop HS.out hlu)
            clear hlu H
            go_wp2_with fail
            refine HL.out.mono ?_
            rintro e w3 ⟨rfl, H3⟩
            have H := hidE H3
            clear HL hl2 H3 f0 f1 f2 g1 g2 g3
            go_wp2
            go_ret
            exact ⟨m, E', rfl, H.out, HF.out⟩
          | true =>
            have HL := hidE (H.out.less b i HIE.out.2 HIE.out.1 _ hlu)
            have HD2 : Hid (DD n (atM (swL E' i b)) i0 b true) := by
              rw [Hid, atM_sw _ _ _ (by rw [HLen.out]; exact HIE.out.1) (by rw [HLen.out]; exact HIE.out.2)]
              exact HD.out.step HS.out hlu
            clear hlu H
            go_wp2_with fail
            refine HL.out.mono ?_
            rintro e w3 ⟨rfl, H3⟩
            have hs := mt_swap 192 cb 2 w3 v H3.c2
            have HW := hidE (H3.swap i b (by have := HS.out.par; omega) HS.out.par.2.2 HN.out)
            clear HL hl2 H3 f0 f1 f2 g1 g2 g3
            go_wp2_with fail
            refine HW.out.mono ?_
            rintro e w4 ⟨rfl, H4⟩
            have H := hidE H4
            clear HW hs H4
            go_wp2
            go_roundw
            case rel => exact ⟨b, true, _, by have := HA.out; have := HBB.out; have := HN.out; have := HZ.out; have := HS.out.par; omega, rfl, H, HD2⟩
            case measure => have := HS.out.par; simp [intOf]; omega

        | false =>
          have HL := hidE (H.out.less b a (by have := HN.out; omega) (by have := HN.out; omega) _ hlt)
          have HS : Hid (SmC n (atM E') i a) := ⟨hc, .inl ⟨ha, fun _ => by rw [← hb]; exact hlt⟩⟩
          clear hlt ha hb hi hc hc2 hz c2 H
          go_wp2_with fail
          refine HL.out.mono ?_
          rintro e w2 ⟨rfl, H2⟩
          have hl2 := mt_less 192 cb 2 w2 v H2.c2
          have H := hidE H2
          clear HL hl H2
          have HIE : Hid (i < E.length ∧ a < E.length) := by have := HN.out; have := HA.out; have := HBB.out; have := HS.out.par; exact ⟨by omega, by omega⟩
          cases hlu : ltM (atM E' a) (atM E' i) with
          | false =>
            have HL := hidE (H.out.less a i HIE.out.2 HIE.out.1 _ hlu)
            have HF := hidE (HD.out.stop HS.out hlu)
            clear hlu H
            go_wp2_with fail
            refine HL.out.mono ?_
            rintro e w3 ⟨rfl, H3⟩
            have H := hidE H3
            clear HL hl2 H3 f0 f1 f2 g1 g2 g3
            go_wp2
            go_ret
            exact ⟨m, E', rfl, H.out, HF.out⟩
          | true =>
            have HL := hidE (H.out.less a i HIE.out.2 HIE.out.1 _ hlu)
            have HD2 : Hid (DD n (atM (swL E' i a)) i0 a true) := by
              rw [Hid, atM_sw _ _ _ (by rw [HLen.out]; exact HIE.out.1) (by rw [HLen.out]; exact HIE.out.2)]
              exact HD.out.step HS.out hlu
            clear hlu H
            go_wp2_with fail
            refine HL.out.mono ?_
            rintro e w3 ⟨rfl, H3⟩
            have hs := mt_swap 192 cb 2 w3 v H3.c2
            have HW := hidE (H3.swap i a (by have := HS.out.par; omega) HS.out.par.2.2 HN.out)
            clear HL hl2 H3 f0 f1 f2 g1 g2 g3
            go_wp2_with fail
            refine HW.out.mono ?_
            rintro e w4 ⟨rfl, H4⟩
            have H := hidE H4
            clear HW hs H4
            go_wp2
            go_roundw
            case rel => exact ⟨a, true, _, by have := HA.out; have := HBB.out; have := HN.out; have := HZ.out; have := HS.out.par; omega, rfl, H, HD2⟩
            case measure => have := HS.out.par; simp [intOf]; omega

      · have g3 : decide (b < n) = false := decide_eq_false (by omega)
        have HS : Hid (SmC n (atM E') i a) := ⟨hc, .inl ⟨ha, fun q => absurd q (by omega)⟩⟩
        have hl2 := mt_less 192 cb 2 wr v c2
        clear ha hb hi hc hc2 hz c2
        have HIE : Hid (i < E.length ∧ a < E.length) := by have := HN.out; have := HA.out; have := HBB.out; have := HS.out.par; exact ⟨by omega, by omega⟩
        cases hlu : ltM (atM E' a) (atM E' i) with
        | false =>
          have HL := hidE (H.out.less a i HIE.out.2 HIE.out.1 _ hlu)
          have HF := hidE (HD.out.stop HS.out hlu)
          clear hlu H
          go_wp2_with fail
          refine HL.out.mono ?_
          rintro e w3 ⟨rfl, H3⟩
          have H := hidE H3
          clear HL hl2 H3 f0 f1 f2 g1 g2 g3
          go_wp2
          go_ret
          exact ⟨m, E', rfl, H.out, HF.out⟩
        | true =>
          have HL := hidE (H.out.less a i HIE.out.2 HIE.out.1 _ hlu)
          have HD2 : Hid (DD n (atM (swL E' i a)) i0 a true) := by
            rw [Hid, atM_sw _ _ _ (by rw [HLen.out]; exact HIE.out.1) (by rw [HLen.out]; exact HIE.out.2)]
            exact HD.out.step HS.out hlu
          clear hlu H
          go_wp2_with fail
          refine HL.out.mono ?_
          rintro e w3 ⟨rfl, H3⟩
          have hs := mt_swap 192 cb 2 w3 v H3.c2
          have HW := hidE (H3.swap i a (by have := HS.out.par; omega) HS.out.par.2.2 HN.out)
          clear HL hl2 H3 f0 f1 f2 g1 g2 g3
          go_wp2_with fail
          refine HW.out.mono ?_
          rintro e w4 ⟨rfl, H4⟩
          have H := hidE H4
          clear HW hs H4
          go_wp2
          go_roundw
          case rel => exact ⟨a, true, _, by have := HA.out; have := HBB.out; have := HN.out; have := HZ.out; have := HS.out.par; omega, rfl, H, HD2⟩
          case measure => have := HS.out.par; simp [intOf]; omega

    · have g1 : decide (n ≤ a) = true := decide_eq_true (by omega)
      have HF := hidE (HD.out.leaf (by omega))
      clear ha hb hi hc hz c2
      go_wp2
      go_ret
      exact ⟨m, E', rfl, H.out, HF.out⟩
end Go.Proofs.Ytofnnphpogpcdaa
