/- RouteBest: the walk. -/
import Derived.Test.YtjfcoihfjjcooaaRtE
import Derived.Test.YtjfcoihfjjcooaaRtP
namespace Go.Proofs.Ytjfcoihfjjcooaa
open Go.RowKit
set_option linter.unusedVariables false

set_option maxRecDepth 100000 in
set_option maxHeartbeats 4000000 in
theorem best_walk (rs : List RouteP) (a : Option Addr) (n c : Nat) (t : ByteArray) (w : World) (hf : Rts w.heap.size w (.slice a n c) rs) (hb : RBd rs) (ht : t.size ≤ maxLen) (hM : MaxL w) :
    Calls Try.prog 4 #[.slice a n c, .string t] w fun e w' => e = .returned (.bool true) ∧ Below w.heap.size w w' := by
  obtain ⟨rfl, hlen⟩ := hf.len
  have HA : Hid (Calls Try.prog 7 #[] w fun e w' => e = .returned (.bool true) ∧ Below w.heap.size w w') := alive11_any w hM
  unfold maxLen at ht hlen
  by_cases hl : rs.length ≤ 100
  · have hl' : decide (100 < (rs.length : Int)) = false := decide_eq_false (by omega)
    by_cases htl : t.size ≤ 2000
    · have htl' : decide (2000 < (t.size : Int)) = false := decide_eq_false (by omega)
      have H1 : Hid (∀ W, Below w.heap.size w W → Calls Try.prog 8 #[.slice a rs.length c, .string t] W fun e w' => ∃ m, e = .returned (.int .i64 m) ∧ Best rs t rs.length m ∧ Below W.heap.size W w') := fun W b => match_any rs a c t W ((hf.keep b).mono b.size) hb (by omega) (hM.below b)
      have hbr : RBd rs.reverse := fun r hr => hb r (List.mem_reverse.1 hr)
      have H2 : Hid (∀ a2 c2 W, Below w.heap.size w W → Rts W.heap.size W (.slice a2 rs.length c2) rs.reverse → Calls Try.prog 8 #[.slice a2 rs.length c2, .string t] W fun e w' => ∃ m, e = .returned (.int .i64 m) ∧ Best rs.reverse t rs.reverse.length m ∧ Below W.heap.size W w') := fun a2 c2 W b hr => by
        have e : rs.reverse.length = rs.length := List.length_reverse
        have k := match_any rs.reverse a2 c2 t W (by rw [e]; exact hr) hbr (by omega) (hM.below b)
        rw [e] at k
        rw [e]
        exact k
      have H5 : Hid (∀ (p : ByteArray), p.size ≤ 140737488355328 → ∀ W, Below w.heap.size w W → Calls Try.prog 12 #[.string p, .string t] W fun e w' => e = .returned (.bool (fitT p t)) ∧ ∃ n, w' = W.drewN n) := fun p hp W b => fits_q p t W (by omega) (by unfold maxLen; omega) (hM.below b)
      have HC : Hid (0 < rs.length → ∃ g off, a = some ⟨g, off, none⟩ ∧ g < w.heap.size ∧ ∀ (j : Nat) (hj : j < rs.length), RtAt w g (off + j * 3) rs[j]) := by
        obtain ⟨a', c', e, _, _, _, h3⟩ := hf
        obtain ⟨rfl, _, rfl⟩ := rt_slice_inj e
        exact h3
      have HBD : Hid (RBd rs) := hb
      clear hf hb hM htl ht hlen hbr
      go_enter Try.func4, Try.ntmps4
      go_wp2_with fail
      refine HA.out.mono ?_
      rintro e w1 ⟨rfl, B1⟩
      have O1 : OwnR w1.heap.size (w1.alloc (.cells #[] 26)) (.slice (some ⟨w1.heap.size, 0, none⟩) 0 0) [] := OwnR.empty _ _ (Nat.le_refl _)
      have C1 : Below w1.heap.size w1 (w1.alloc (.cells #[] 26)) := (Below.refl _ _).alloc (Nat.le_refl _) _
      go_wp2_with fail
      go_loopw [5, 6, 7, 24] (fun v5 v6 v7 vi wr => ∃ (k f b : Nat) (ao : Option Addr) (cv : Nat), k ≤ rs.length ∧ vi = .int .i64 k ∧ v6 = .int .i64 f ∧ v7 = .int .i64 b ∧ f ≤ k ∧ b ≤ 140737488355328 ∧ v5 = .slice ao (rs.reverse.take k).length cv ∧ Hid (OwnR w1.heap.size wr (.slice ao (rs.reverse.take k).length cv) (rs.reverse.take k)) ∧ Hid (CB (rs.take k) t f b) ∧ Below w1.heap.size w1 wr) (fun _ _ _ vi _ => rs.length - (intOf vi).toNat)
      case atStart => exact ⟨0, 0, 0, _, _, Nat.zero_le _, rfl, rfl, rfl, Nat.le_refl _, Nat.zero_le _, rfl, O1, CB.nil t, C1⟩
      case round =>
        obtain ⟨k, f, b, ao, cv, hk, rfl, rfl, rfl, hfk, hbb, rfl, hO, hCB, hB⟩ := hrel
        by_cases hlt : k < rs.length
        · obtain ⟨g, off, ha, hg, hc⟩ := HC.out (by omega)
          subst ha
          have E0 : Below w.heap.size w wr := B1.trans (hB.mono B1.size)
          obtain ⟨m, hm⟩ : ∃ m : Nat, m = rs.length - 1 - k := ⟨_, rfl⟩
          have hml : m < rs.length := by omega
          obtain ⟨hc1, hc2, hc3⟩ := (hc m hml).keep hg E0
          have hkp := ((hc k hlt).keep hg E0).1
          have hg2 : g < wr.heap.size := Nat.lt_of_lt_of_le hg E0.size
          have hw1 : (rs.length : Int) - 1 - (k : Int) = (m : Int) := by omega
          have hsz := (HBD.out rs[k] (List.getElem_mem hlt)).1
          have hrt : rs.reverse.take (k + 1) = rs.reverse.take k ++ [rs[m]] := by subst hm; exact rev_take hlt
          have htk : rs.take (k + 1) = rs.take k ++ [rs[k]] := List.take_succ_eq_append_getElem hlt
          have O2 := hO.out.keep ((Below.refl _ _).alloc (Nat.le_refl _) (.cells #[.string rs[m].p, .string rs[m].u, .string rs[m].s] 26))
          have hlb : (rs.reverse.take k).length ≤ 100 := by rw [List.length_take]; omega
          obtain ⟨v4, w4, r4, O4, B4⟩ := ownR_append O2 (rts_new wr rs[m]) (by simp; omega) (by have := hB.size; simp; omega)
          have E4 : Below w1.heap.size w1 w4 := (hB.alloc hB.size _).trans B4
          have F4 : Below w.heap.size w w4 := B1.trans (E4.mono B1.size)
          rw [← hrt] at O4
          obtain ⟨a4, c4, rfl, _⟩ := O4.form
          have HO4 : Hid (OwnR w1.heap.size w4 (.slice a4 (rs.reverse.take (k + 1)).length c4) (rs.reverse.take (k + 1))) := O4
          have HR : Hid _ := r4
          have hk4 := ((hc k hlt).keep hg F4).1
          have HF : Hid (∀ W, Below w.heap.size w W → Calls Try.prog 12 #[.string rs[k].p, .string t] W fun e w' => e = .returned (.bool (fitT rs[k].p t)) ∧ ∃ n, w' = W.drewN n) := H5.out rs[k].p hsz
          have HY : Hid (fitT rs[k].p t = true → CB (rs.take (k + 1)) t (f + 1) (max b rs[k].p.size)) := fun h => by rw [htk]; exact hCB.out.more h
          have HN : Hid (fitT rs[k].p t = false → CB (rs.take (k + 1)) t f b) := fun h => by rw [htk]; exact hCB.out.skip h
          have HZ : Hid (rs[k].p.size ≤ 140737488355328) := hsz
          clear O2 O4 r4 hrt htk hsz hc hO hCB hkp HC H1 H2 H5 HBD hm hlb B4 O1 C1
          generalize hL : (rs.reverse.take (k + 1)).length = L at *
          have HL : Hid ((rs.reverse.take (k + 1)).length = L) := hL
          clear hL
          generalize (rs.reverse.take k).length = L0 at *
          generalize fitT rs[k].p t = FF at *
          generalize rs[k].p = xp at *
          generalize rs[m].p = yp at *
          generalize rs[m].u = yu at *
          generalize rs[m].s = ys at *
          have HW : Hid ((rs.length : Int) - 1 - (k : Int) = (m : Int)) := hw1
          cases FF
          · have HT : Hid (CB (rs.take (k + 1)) t f b) := HN.out rfl
            clear HY HN
            go_wp2_with (at_builtin; refine wpList_append_run2 rfl _ _ 22 22 rfl _ _ _ w4 rfl rfl HR.out ?_)
            refine (HF.out _ F4).mono ?_
            rintro e w5 ⟨rfl, n5, rfl⟩
            go_wp2
            go_roundw
            case rel => exact ⟨k + 1, f, b, a4, c4, by omega, by go_num, rfl, rfl, by omega, hbb, by rw [HL.out], by rw [HL.out]; exact HO4.out.keep (rt_drewN _ _ _), HT, E4.trans (rt_drewN _ _ _)⟩
            case measure => simp [intOf]; omega
          · have HT : Hid (CB (rs.take (k + 1)) t (f + 1) (max b xp.size)) := HY.out rfl
            clear HY HN
            go_wp2_with (at_builtin; refine wpList_append_run2 rfl _ _ 22 22 rfl _ _ _ w4 rfl rfl HR.out ?_)
            refine (HF.out _ F4).mono ?_
            rintro e w5 ⟨rfl, n5, rfl⟩
            have hz := HZ.out
            go_wp2
            go_roundw
            case rel => exact ⟨k + 1, f + 1, max b xp.size, a4, c4, by omega, by go_num, by go_num, by first | rfl | (congr 1; omega), by omega, by omega, by rw [HL.out], by rw [HL.out]; exact HO4.out.keep (rt_drewN _ _ _), HT, E4.trans (rt_drewN _ _ _)⟩
            case measure => simp [intOf]; omega
        · have hkl : k = rs.length := by omega
          subst hkl
          have E0 : Below w.heap.size w wr := B1.trans (hB.mono B1.size)
          have e1 : rs.reverse.take rs.length = rs.reverse := List.take_of_length_le (by rw [List.length_reverse]; exact Nat.le_refl _)
          have e2 : rs.take rs.length = rs := List.take_of_length_le (Nat.le_refl _)
          rw [e1, List.length_reverse] at hO
          rw [e1, List.length_reverse]
          rw [e2] at hCB
          clear e1 e2
          have R0 := hO.out.rts
          go_wp2_with fail
          refine (H1.out _ E0).mono ?_
          rintro e w5 ⟨m, rfl, hm, B5⟩
          have E5 := E0.trans (B5.mono E0.size)
          have R5 : Rts w5.heap.size w5 (.slice ao rs.length cv) rs.reverse := (R0.keep B5).mono B5.size
          go_wp2_with fail
          refine (H2.out ao cv _ E5 R5).mono ?_
          rintro e w6 ⟨m', rfl, hm', B6⟩
          have E6 := E5.trans (B6.mono E5.size)
          have R6 : Rts w6.heap.size w6 (.slice ao rs.length cv) rs.reverse := (R5.keep B6).mono B6.size
          clear H1 H2 hO R0 R5 B5 B6 O1 C1 hB E5 E0
          rcases Nat.eq_zero_or_pos f with h0 | h0
          · subst h0
            obtain rfl := hCB.out.none hm
            obtain rfl := hCB.out.rev.none hm'
            clear hm hm' hCB R6 HC HBD H5
            go_wp2
            go_ret
            exact ⟨rfl, E6⟩
          · obtain ⟨i, hi, rfl, fi, si⟩ := hCB.out.some h0 hm
            obtain ⟨i', hi', rfl, fi', si'⟩ := hCB.out.rev.some h0 hm'
            obtain ⟨g, off, ha, hg, hc⟩ := HC.out (by omega)
            subst ha
            have hci := ((hc i hi).keep hg E6).1
            obtain ⟨a', c', e, q1, q2, q3, h3⟩ := R6
            obtain ⟨rfl, q4, rfl⟩ := rt_slice_inj e
            clear q1 q2 q3 q4
            obtain ⟨g', off', ha', hg', hc'⟩ := h3 (Nat.lt_of_le_of_lt (Nat.zero_le _) hi')
            subst ha'
            have hci' := (hc' i' hi').1
            have hsz := (HBD.out rs[i] (List.getElem_mem hi)).1
            have hsame : rs.reverse[i'].p = rs[i].p := best_same fi' fi (by omega)
            rw [hsame] at hci'
            have HF : Hid (∀ n, Calls Try.prog 12 #[.string rs[i].p, .string t] (w6.drewN n) fun e w' => e = .returned (.bool true) ∧ ∃ n', w' = (w6.drewN n).drewN n') := fun n => by
              have k := H5.out rs[i].p hsz (w6.drewN n) (E6.trans (rt_drewN _ _ _))
              rwa [fi] at k
            have hsi : ((rs[i].p.size : Int) == (b : Int)) = true := by simp [si]
            have hirl : i' < rs.length := by rw [List.length_reverse] at hi'; exact hi'
            have d0 : ((f : Int) == 0) = false := by simp; omega
            have d3 : decide (i < rs.length) = true := decide_eq_true hi
            clear hm hm' hCB h3 hc hc' HC HBD H5 e hsame fi fi' si si' hsz h0 hfk hbb hk hi' hlt hg hg'
            generalize rs[i].p = xp at *
            go_wp2_with fail
            go_quiet ((go_at_call 12; exact Calls.quiet_of (HF.out _)))
            go_wp2
            go_ret
            exact ⟨rfl, E6.trans (rt_drewN _ _ _)⟩
    · have htl' : decide (2000 < (t.size : Int)) = true := decide_eq_true (by omega)
      clear hf hb hM
      go_enter Try.func4, Try.ntmps4
      go_wp2_with fail
      refine HA.out.mono ?_
      rintro e w1 ⟨rfl, B1⟩
      go_wp2
      go_ret
      exact ⟨rfl, B1⟩
  · have hl' : decide (100 < (rs.length : Int)) = true := decide_eq_true (by omega)
    clear hf hb hM
    go_enter Try.func4, Try.ntmps4
    go_wp2_with fail
    refine HA.out.mono ?_
    rintro e w1 ⟨rfl, B1⟩
    go_wp2
    go_ret
    exact ⟨rfl, B1⟩
end Go.Proofs.Ytjfcoihfjjcooaa
