/- RouteMatches: the walk. -/
import Derived.Test.YtjfcoihfjjcooaaRtE
import Derived.Test.YtjfcoihfjjcooaaRtI
import Derived.Test.YtjfcoihfjjcooaaRtJ
namespace Go.Proofs.Ytjfcoihfjjcooaa
open Go.RowKit
set_option linter.unusedVariables false

set_option maxRecDepth 100000 in
set_option maxHeartbeats 4000000 in
theorem matches_walk (rs : List RouteP) (a : Option Addr) (n c : Nat) (t : ByteArray) (w : World) (hf : Rts w.heap.size w (.slice a n c) rs) (hb : RBd rs) (ht : t.size ≤ maxLen) (hM : MaxL w) :
    Calls Try.prog 3 #[.slice a n c, .string t] w fun e w' => e = .returned (.bool true) ∧ Below w.heap.size w w' := by
  obtain ⟨rfl, hlen⟩ := hf.len
  have HA : Hid (Calls Try.prog 7 #[] w fun e w' => e = .returned (.bool true) ∧ Below w.heap.size w w') := alive11_any w hM
  unfold maxLen at ht hlen
  by_cases hl : rs.length ≤ 100
  · have hl' : decide (100 < (rs.length : Int)) = false := decide_eq_false (by omega)
    by_cases htl : t.size ≤ 2000
    · have htl' : decide (2000 < (t.size : Int)) = false := decide_eq_false (by omega)
      have H1 : Hid (∀ W, Below w.heap.size w W → Calls Try.prog 8 #[.slice a rs.length c, .string t] W fun e w' => ∃ m, e = .returned (.int .i64 m) ∧ Best rs t rs.length m ∧ Below w.heap.size w w') := fun W b => (match_any rs a c t W ((hf.keep b).mono b.size) hb (by omega) (hM.below b)).mono fun e w' ⟨m, e1, e2, e3⟩ => ⟨m, e1, e2, b.trans (e3.mono b.size)⟩
      have H2 : Hid (∀ W, Below w.heap.size w W → Calls Try.prog 9 #[.slice a rs.length c, .string t] W fun e w' => ∃ m, e = .returned (.int .i64 m) ∧ Best rs t rs.length m ∧ w' = W) := fun W b => r11match_any rs a c t W ((hf.keep b).mono b.size) hb (by omega)
      have H3 : Hid (∀ (p u s : ByteArray), p.size ≤ 140737488355328 → s.size ≤ 140737488355328 → ∀ W, Below w.heap.size w W → Calls Try.prog 10 #[.agg #[.string p, .string u, .string s], .string t] W fun e w' => e = .returned (.tuple #[.string (rewB p s t).1, .bool (rewB p s t).2]) ∧ Below W.heap.size W w') := fun p u s hp hs W b => rewrite_any p u s t W (by omega) (by unfold maxLen; omega) hs (hM.below b)
      have H4 : Hid (∀ (p u s : ByteArray), p.size ≤ 140737488355328 → s.size ≤ 140737488355328 → ∀ W, Calls Try.prog 11 #[.agg #[.string p, .string u, .string s], .string t] W fun e w' => e = .returned (.tuple #[.string (rewB p s t).1, .bool (rewB p s t).2]) ∧ Below W.heap.size W w') := fun p u s hp hs W => r11rewrite_any p u s t W (by omega) (by unfold maxLen; omega) hs
      have H5 : Hid (∀ (p : ByteArray), p.size ≤ 140737488355328 → ∀ W, Below w.heap.size w W → Calls Try.prog 12 #[.string p, .string t] W fun e w' => e = .returned (.bool (fitT p t)) ∧ ∃ n, w' = W.drewN n) := fun p hp W b => fits_q p t W (by omega) (by unfold maxLen; omega) (hM.below b)
      have H6 : Hid (∀ (p : ByteArray), p.size ≤ 140737488355328 → ∀ W, Calls Try.prog 13 #[.string p, .string t] W fun e w' => e = .returned (.bool (fitT p t)) ∧ w' = W) := fun p hp W => r11fits_any p t W (by omega) (by unfold maxLen; omega)
      have HC : Hid (0 < rs.length → ∃ g off, a = some ⟨g, off, none⟩ ∧ g < w.heap.size ∧ ∀ (j : Nat) (hj : j < rs.length), RtAt w g (off + j * 3) rs[j]) := by
        obtain ⟨a', c', e, _, _, _, h3⟩ := hf
        obtain ⟨rfl, _, rfl⟩ := rt_slice_inj e
        exact h3
      have HBD : Hid (RBd rs) := hb
      clear hf hb hM htl ht hlen
      go_enter Try.func3, Try.ntmps3
      go_wp2_with fail
      refine HA.out.mono ?_
      rintro e w1 ⟨rfl, B1⟩
      go_wp2_with fail
      refine (H1.out _ B1).mono ?_
      rintro e w2 ⟨m, rfl, hm, B2⟩
      go_wp2_with fail
      refine (H2.out _ B2).mono ?_
      rintro e w3 ⟨m', rfl, hm', rfl⟩
      obtain rfl := Best.one hm hm'
      clear hm hm' H1 H2 HA B1
      go_wp2_with fail
      go_loopw [30] (fun vi wr => ∃ k : Nat, k ≤ rs.length ∧ vi = .int .i64 k ∧ Below w.heap.size w wr) (fun vi _ => rs.length - (intOf vi).toNat)
      case atStart => exact ⟨0, Nat.zero_le _, rfl, B2⟩
      case round =>
        obtain ⟨k, hk, rfl, hB⟩ := hrel
        by_cases hlt : k < rs.length
        · obtain ⟨g, off, ha, hg, hc⟩ := HC.out (by omega)
          subst ha
          obtain ⟨hc1, hc2, hc3⟩ := (hc k hlt).keep hg hB
          have hsz := HBD.out rs[k] (List.getElem_mem hlt)
          have P1 : Hid (rs[k].p.size ≤ 140737488355328) := hsz.1
          have P2 : Hid (rs[k].s.size ≤ 140737488355328) := hsz.2
          clear hsz hc HC HBD
          generalize rs[k].p = xp at *
          generalize rs[k].u = xu at *
          generalize rs[k].s = xs at *
          have E1 : Below w.heap.size w (wr.alloc (.cells #[.string xp, .string xu, .string xs] 26)) := hB.alloc hB.size _
          have hlt2 : wr.heap.size < (wr.alloc (.cells #[.string xp, .string xu, .string xs] 26)).heap.size := by simp
          go_wp2_with fail
          refine (H3.out xp xu xs P1.out P2.out _ E1).mono ?_
          rintro e w4 ⟨rfl, B4⟩
          have g4 : w4.heap[wr.heap.size]? = some (.cells #[.string xp, .string xu, .string xs] 26) := tblk_below (tblk_new _ _) B4
          have E4 := E1.trans (B4.mono E1.size)
          have d0 : w4.cell? ⟨wr.heap.size, 0, none⟩ = some (.string xp) := tblk_cell g4 rfl
          have d1 : w4.cell? ⟨wr.heap.size, 1, none⟩ = some (.string xu) := tblk_cell g4 rfl
          have d2 : w4.cell? ⟨wr.heap.size, 2, none⟩ = some (.string xs) := tblk_cell g4 rfl
          clear hc1 hc2 hc3 B4 hlt2
          go_wp2_with fail
          refine (H4.out xp xu xs P1.out P2.out _).mono ?_
          rintro e w5 ⟨rfl, B5⟩
          have g5 := tblk_below g4 B5
          have E5 := E4.trans (B5.mono E4.size)
          have f0 : w5.cell? ⟨wr.heap.size, 0, none⟩ = some (.string xp) := tblk_cell g5 rfl
          clear d0 d1 d2 B5 g4 g5 H3 H4
          have hbb : ((rewB xp xs t).1.toList != (rewB xp xs t).1.toList) = false := by simp [bne]
          generalize rewB xp xs t = R at *
          obtain ⟨R1, R2⟩ := R
          simp only at hbb ⊢
          have K5 : Hid (∀ n, Calls Try.prog 12 #[.string xp, .string t] (w5.drewN n) fun e w' => e = .returned (.bool (fitT xp t)) ∧ ∃ n', w' = (w5.drewN n).drewN n') := fun n => H5.out xp P1.out _ (E5.trans (rt_drewN _ _ _))
          have K6 : Hid (∀ n, Calls Try.prog 13 #[.string xp, .string t] (w5.drewN n) fun e w' => e = .returned (.bool (fitT xp t)) ∧ w' = w5.drewN n) := fun n => H6.out xp P1.out _
          clear H5 H6
          generalize fitT xp t = F at *
          go_wp2_with fail
          go_quiet (first | (go_at_call 12; exact Calls.quiet_of (K5.out _)) | (go_at_call 13; exact Calls.quiet_of_same (K6.out _)))
          go_wp2
          go_roundw
          case rel => exact ⟨k + 1, by omega, by go_num, E5.trans (rt_drewN _ _ _)⟩
          case measure => simp [intOf]; omega
        · clear HC HBD H3 H4 H5 H6
          go_wp2
          go_ret
          exact ⟨rfl, hB⟩
    · have htl' : decide (2000 < (t.size : Int)) = true := decide_eq_true (by omega)
      clear hf hb hM
      go_enter Try.func3, Try.ntmps3
      go_wp2_with fail
      refine HA.out.mono ?_
      rintro e w1 ⟨rfl, B1⟩
      go_wp2
      go_ret
      exact ⟨rfl, B1⟩
  · have hl' : decide (100 < (rs.length : Int)) = true := decide_eq_true (by omega)
    clear hf hb hM
    go_enter Try.func3, Try.ntmps3
    go_wp2_with fail
    refine HA.out.mono ?_
    rintro e w1 ⟨rfl, B1⟩
    go_wp2
    go_ret
    exact ⟨rfl, B1⟩
end Go.Proofs.Ytjfcoihfjjcooaa
