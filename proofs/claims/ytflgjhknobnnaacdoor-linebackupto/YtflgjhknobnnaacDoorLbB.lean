/- LineBack: the walk. -/
import Derived.Test.YtflgjhknobnnaacDoorLbA
namespace Go.Proofs.YtflgjhknobnnaacDoor
open Go.RowKit
set_option linter.unusedVariables false

theorem sta_no {s : ByteArray} (h : (statP s).ok = false) : statP s = ⟨0, ⟨#[]⟩, 0, false⟩ := by
  unfold statP at h ⊢
  split at h
  · cases h
  · rename_i k
    rw [if_neg k]
theorem crlf_ne (s : ByteArray) : ((s ++ (⟨#[32, 13, 10]⟩ : ByteArray)).toList == (s ++ (⟨#[13, 10]⟩ : ByteArray)).toList) = false := by
  rw [ByteArray.toList_eq, ByteArray.toList_eq]
  refine beq_eq_false_iff_ne.2 fun e => ?_
  simp only [ByteArray.data_append, Array.toList_append] at e
  have := congrArg List.length e
  simp at this
set_option maxRecDepth 100000 in
set_option maxHeartbeats 4000000 in
theorem back_walk (s : ByteArray) (w : World) (hs : s.size ≤ 1048576) (hL : Lv w) : Calls Tryd.prog 3 #[.string s] w fun e w' => e = .returned (.bool true) ∧ Below w.heap.size w w' := by
  have HR : Hid (∀ W, Below w.heap.size w W → Calls Tryd.prog 4 #[] W fun e w' => e = .returned (.bool true) ∧ Below W.heap.size W w') := fun W b => reading_any W (hL.below b)
  have c1 := fun W : World => lcat_run W s ⟨#[13, 10]⟩ (by show _ + 2 ≤ _; omega)
  have c2 := fun W : World => lcat_run W s ⟨#[32, 13, 10]⟩ (by show _ + 3 ≤ _; omega)
  have H1 : Hid (∀ W, Below w.heap.size w W → Calls Tryd.prog 5 #[.string s] W fun e w' => e = .returned (.tuple #[rqV (rqP s), .int .i64 (rqP s).code]) ∧ Below W.heap.size W w') := fun W b => request_any s W (by omega) (hL.below b).max
  have H5 : Hid (∀ W, Below w.heap.size w W → (rqP s).code = 0 → Calls Tryd.prog 6 #[rqV (rqP s)] W fun e w' => e = .returned (.string (s ++ ⟨#[13, 10]⟩)) ∧ Below W.heap.size W w') := fun W b hc => by
    obtain ⟨e, hm, q0, q1⟩ := req_back hc
    have hb : -9223372036854775808 ≤ (rqP s).minor ∧ (rqP s).minor ≤ 9223372036854775807 := by omega
    have hi : (itoaS (rqP s).minor).size ≤ 21 := by rcases hm with k | k <;> rw [k] <;> decide +kernel
    have k := reqline_any (rqP s).method (rqP s).target (rqP s).minor hb.1 hb.2 hi W (hL.below b).pow (by omega) (by omega)
    rw [e] at k
    exact k
  have H2 : Hid (∀ W, Below w.heap.size w W → Calls Tryd.prog 7 #[.string s] W fun e w' => e = .returned (.tuple #[respV (statP s), .bool (statP s).ok]) ∧ Below W.heap.size W w') := fun W b => status_any s W (by omega) (hL.below b).max
  have HX := crlf_ne s
  unfold rqV at H1 H5
  generalize rqP s = x at *
  obtain ⟨m, t, mi, c⟩ := x
  simp only at H1 H5
  cases hk : (statP s).ok
  · rw [sta_no hk] at H2
    unfold respV at H2
    simp only at H2
    clear hk hL hs
    by_cases hc : c = 0
    · subst hc
      go_enter Tryd.func3, Tryd.ntmps3
      go_wp2_with fail
      refine (HR.out _ (Below.refl _ _)).mono ?_
      rintro e w1 ⟨rfl, C1⟩
      clear HR
      go_wp2_with fail
      refine (H1.out _ C1).mono ?_
      rintro e w2 ⟨rfl, B2⟩
      have C2 := C1.trans (B2.mono C1.size)
      clear C1 B2 H1
      have C3 := C2.alloc C2.size (.cells #[.string m, .string t, .int .i64 mi, .slice none 0 0, .slice none 0 0] 26)
      have hr := tblk_new w2 (.cells #[.string m, .string t, .int .i64 mi, .slice none 0 0, .slice none 0 0] 26)
      have a0 := tblk_cell (i := 0) hr rfl
      have a1 := tblk_cell (i := 1) hr rfl
      have a2 := tblk_cell (i := 2) hr rfl
      have a3 := tblk_cell (i := 3) hr rfl
      have a4 := tblk_cell (i := 4) hr rfl
      clear C2
      go_wp2_with fail
      refine (H5.out _ C3 (by first | trivial | rfl)).mono ?_
      generalize w2.alloc (.cells #[.string m, .string t, .int .i64 mi, .slice none 0 0, .slice none 0 0] 26) = W2 at *
      rintro e w3 ⟨rfl, B3⟩
      have C4 := C3.trans (B3.mono C3.size)
      clear C3 B3 H5 hr a0 a1 a2 a3 a4
      go_wp2_with fail
      refine (H2.out _ C4).mono ?_
      rintro e w5 ⟨rfl, B5⟩
      have C5 := C4.trans (B5.mono C4.size)
      clear C4 B5 H2
      go_wp2
      go_ret
      exact ⟨rfl, C5.alloc C5.size _⟩
    · have hc' : ¬ c = 0 := hc
      clear hc
      go_enter Tryd.func3, Tryd.ntmps3
      go_wp2_with fail
      refine (HR.out _ (Below.refl _ _)).mono ?_
      rintro e w1 ⟨rfl, C1⟩
      clear HR
      go_wp2_with fail
      refine (H1.out _ C1).mono ?_
      rintro e w2 ⟨rfl, B2⟩
      have C2 := C1.trans (B2.mono C1.size)
      clear C1 B2 H1
      have C3 := C2.alloc C2.size (.cells #[.string m, .string t, .int .i64 mi, .slice none 0 0, .slice none 0 0] 26)
      have hr := tblk_new w2 (.cells #[.string m, .string t, .int .i64 mi, .slice none 0 0, .slice none 0 0] 26)
      have a0 := tblk_cell (i := 0) hr rfl
      have a1 := tblk_cell (i := 1) hr rfl
      have a2 := tblk_cell (i := 2) hr rfl
      have a3 := tblk_cell (i := 3) hr rfl
      have a4 := tblk_cell (i := 4) hr rfl
      clear C2 H5
      have C4 := C3
      clear C3 hr a0 a1 a2 a3 a4
      go_wp2_with fail
      refine (H2.out _ C4).mono ?_
      rintro e w5 ⟨rfl, B5⟩
      have C5 := C4.trans (B5.mono C4.size)
      clear C4 B5 H2
      go_wp2
      go_ret
      exact ⟨rfl, C5.alloc C5.size _⟩
  · obtain ⟨cd, mn, rs, es, ht, hm, h3, hn, hlo, hhi, hz⟩ := sta_back hk
    rw [es] at H2
    unfold respV at H2
    simp only at H2
    have hi : (itoaS mn).size ≤ 21 := by rcases hm with k | k <;> rw [k] <;> decide +kernel
    have hmn : 0 ≤ mn ∧ mn ≤ 1 := by omega
    rcases ht with ht | ⟨ht, hr0⟩
    · have H6 : Hid (∀ W, Below w.heap.size w W → Calls Tryd.prog 8 #[.agg #[.int .i64 cd, .string rs, .int .i64 mn, .slice none 0 0, .slice none 0 0]] W fun e w' => e = .returned (.string (s ++ ⟨#[13, 10]⟩)) ∧ Below W.heap.size W w') := fun W b => by
        have k := statline_any cd mn rs hi (by omega) (by omega) (by omega) (by omega) h3 hn W (hL.below b).pow (by omega)
        rw [ht] at k
        exact k
      clear hk hL hs ht hm h3 hn hlo hhi hz hi hmn es HX
      by_cases hc : c = 0
      · subst hc
        go_enter Tryd.func3, Tryd.ntmps3
        go_wp2_with fail
        refine (HR.out _ (Below.refl _ _)).mono ?_
        rintro e w1 ⟨rfl, C1⟩
        clear HR
        go_wp2_with fail
        refine (H1.out _ C1).mono ?_
        rintro e w2 ⟨rfl, B2⟩
        have C2 := C1.trans (B2.mono C1.size)
        clear C1 B2 H1
        have C3 := C2.alloc C2.size (.cells #[.string m, .string t, .int .i64 mi, .slice none 0 0, .slice none 0 0] 26)
        have hr := tblk_new w2 (.cells #[.string m, .string t, .int .i64 mi, .slice none 0 0, .slice none 0 0] 26)
        have a0 := tblk_cell (i := 0) hr rfl
        have a1 := tblk_cell (i := 1) hr rfl
        have a2 := tblk_cell (i := 2) hr rfl
        have a3 := tblk_cell (i := 3) hr rfl
        have a4 := tblk_cell (i := 4) hr rfl
        clear C2
        go_wp2_with fail
        refine (H5.out _ C3 (by first | trivial | rfl)).mono ?_
        generalize w2.alloc (.cells #[.string m, .string t, .int .i64 mi, .slice none 0 0, .slice none 0 0] 26) = W2 at *
        rintro e w3 ⟨rfl, B3⟩
        have C4 := C3.trans (B3.mono C3.size)
        clear C3 B3 H5 hr a0 a1 a2 a3 a4
        go_wp2_with fail
        refine (H2.out _ C4).mono ?_
        rintro e w5 ⟨rfl, B5⟩
        have C5 := C4.trans (B5.mono C4.size)
        clear C4 B5 H2
        have C6 := C5.alloc C5.size (.cells #[.int .i64 cd, .string rs, .int .i64 mn, .slice none 0 0, .slice none 0 0] 31)
        have hq := tblk_new w5 (.cells #[.int .i64 cd, .string rs, .int .i64 mn, .slice none 0 0, .slice none 0 0] 31)
        have s0 := tblk_cell (i := 0) hq rfl
        have s1 := tblk_cell (i := 1) hq rfl
        have s2 := tblk_cell (i := 2) hq rfl
        have s3 := tblk_cell (i := 3) hq rfl
        have s4 := tblk_cell (i := 4) hq rfl
        clear C5
        go_wp2_with fail
        refine (H6.out _ C6).mono ?_
        generalize w5.alloc (.cells #[.int .i64 cd, .string rs, .int .i64 mn, .slice none 0 0, .slice none 0 0] 31) = W5 at *
        rintro e w6 ⟨rfl, B6⟩
        have hq2 := tblk_below hq B6
        have C7 := C6.trans (B6.mono C6.size)
        have t0 := tblk_cell (i := 0) hq2 rfl
        have t1 := tblk_cell (i := 1) hq2 rfl
        have t2 := tblk_cell (i := 2) hq2 rfl
        have t3 := tblk_cell (i := 3) hq2 rfl
        have t4 := tblk_cell (i := 4) hq2 rfl
        clear C6 B6 H6 hq s0 s1 s2 s3 s4
        go_wp2
        go_ret
        exact ⟨rfl, C7⟩
      · have hc' : ¬ c = 0 := hc
        clear hc
        go_enter Tryd.func3, Tryd.ntmps3
        go_wp2_with fail
        refine (HR.out _ (Below.refl _ _)).mono ?_
        rintro e w1 ⟨rfl, C1⟩
        clear HR
        go_wp2_with fail
        refine (H1.out _ C1).mono ?_
        rintro e w2 ⟨rfl, B2⟩
        have C2 := C1.trans (B2.mono C1.size)
        clear C1 B2 H1
        have C3 := C2.alloc C2.size (.cells #[.string m, .string t, .int .i64 mi, .slice none 0 0, .slice none 0 0] 26)
        have hr := tblk_new w2 (.cells #[.string m, .string t, .int .i64 mi, .slice none 0 0, .slice none 0 0] 26)
        have a0 := tblk_cell (i := 0) hr rfl
        have a1 := tblk_cell (i := 1) hr rfl
        have a2 := tblk_cell (i := 2) hr rfl
        have a3 := tblk_cell (i := 3) hr rfl
        have a4 := tblk_cell (i := 4) hr rfl
        clear C2 H5
        have C4 := C3
        clear C3 hr a0 a1 a2 a3 a4
        go_wp2_with fail
        refine (H2.out _ C4).mono ?_
        rintro e w5 ⟨rfl, B5⟩
        have C5 := C4.trans (B5.mono C4.size)
        clear C4 B5 H2
        have C6 := C5.alloc C5.size (.cells #[.int .i64 cd, .string rs, .int .i64 mn, .slice none 0 0, .slice none 0 0] 31)
        have hq := tblk_new w5 (.cells #[.int .i64 cd, .string rs, .int .i64 mn, .slice none 0 0, .slice none 0 0] 31)
        have s0 := tblk_cell (i := 0) hq rfl
        have s1 := tblk_cell (i := 1) hq rfl
        have s2 := tblk_cell (i := 2) hq rfl
        have s3 := tblk_cell (i := 3) hq rfl
        have s4 := tblk_cell (i := 4) hq rfl
        clear C5
        go_wp2_with fail
        refine (H6.out _ C6).mono ?_
        generalize w5.alloc (.cells #[.int .i64 cd, .string rs, .int .i64 mn, .slice none 0 0, .slice none 0 0] 31) = W5 at *
        rintro e w6 ⟨rfl, B6⟩
        have hq2 := tblk_below hq B6
        have C7 := C6.trans (B6.mono C6.size)
        have t0 := tblk_cell (i := 0) hq2 rfl
        have t1 := tblk_cell (i := 1) hq2 rfl
        have t2 := tblk_cell (i := 2) hq2 rfl
        have t3 := tblk_cell (i := 3) hq2 rfl
        have t4 := tblk_cell (i := 4) hq2 rfl
        clear C6 B6 H6 hq s0 s1 s2 s3 s4
        go_wp2
        go_ret
        exact ⟨rfl, C7⟩
    · subst hr0
      have H6 : Hid (∀ W, Below w.heap.size w W → Calls Tryd.prog 8 #[.agg #[.int .i64 cd, .string ⟨#[]⟩, .int .i64 mn, .slice none 0 0, .slice none 0 0]] W fun e w' => e = .returned (.string (s ++ ⟨#[32, 13, 10]⟩)) ∧ Below W.heap.size W w') := fun W b => by
        have k := statline_any cd mn ⟨#[]⟩ hi (by omega) (by omega) (by omega) (by omega) h3 hn W (hL.below b).pow (by omega)
        rw [ht] at k
        exact k
      clear hk hL hs ht hm h3 hn hlo hhi hz hi hmn es
      by_cases hc : c = 0
      · subst hc
        go_enter Tryd.func3, Tryd.ntmps3
        go_wp2_with fail
        refine (HR.out _ (Below.refl _ _)).mono ?_
        rintro e w1 ⟨rfl, C1⟩
        clear HR
        go_wp2_with fail
        refine (H1.out _ C1).mono ?_
        rintro e w2 ⟨rfl, B2⟩
        have C2 := C1.trans (B2.mono C1.size)
        clear C1 B2 H1
        have C3 := C2.alloc C2.size (.cells #[.string m, .string t, .int .i64 mi, .slice none 0 0, .slice none 0 0] 26)
        have hr := tblk_new w2 (.cells #[.string m, .string t, .int .i64 mi, .slice none 0 0, .slice none 0 0] 26)
        have a0 := tblk_cell (i := 0) hr rfl
        have a1 := tblk_cell (i := 1) hr rfl
        have a2 := tblk_cell (i := 2) hr rfl
        have a3 := tblk_cell (i := 3) hr rfl
        have a4 := tblk_cell (i := 4) hr rfl
        clear C2
        go_wp2_with fail
        refine (H5.out _ C3 (by first | trivial | rfl)).mono ?_
        generalize w2.alloc (.cells #[.string m, .string t, .int .i64 mi, .slice none 0 0, .slice none 0 0] 26) = W2 at *
        rintro e w3 ⟨rfl, B3⟩
        have C4 := C3.trans (B3.mono C3.size)
        clear C3 B3 H5 hr a0 a1 a2 a3 a4
        go_wp2_with fail
        refine (H2.out _ C4).mono ?_
        rintro e w5 ⟨rfl, B5⟩
        have C5 := C4.trans (B5.mono C4.size)
        clear C4 B5 H2
        have C6 := C5.alloc C5.size (.cells #[.int .i64 cd, .string ⟨#[]⟩, .int .i64 mn, .slice none 0 0, .slice none 0 0] 31)
        have hq := tblk_new w5 (.cells #[.int .i64 cd, .string ⟨#[]⟩, .int .i64 mn, .slice none 0 0, .slice none 0 0] 31)
        have s0 := tblk_cell (i := 0) hq rfl
        have s1 := tblk_cell (i := 1) hq rfl
        have s2 := tblk_cell (i := 2) hq rfl
        have s3 := tblk_cell (i := 3) hq rfl
        have s4 := tblk_cell (i := 4) hq rfl
        clear C5
        go_wp2_with fail
        refine (H6.out _ C6).mono ?_
        generalize w5.alloc (.cells #[.int .i64 cd, .string ⟨#[]⟩, .int .i64 mn, .slice none 0 0, .slice none 0 0] 31) = W5 at *
        rintro e w6 ⟨rfl, B6⟩
        have hq2 := tblk_below hq B6
        have C7 := C6.trans (B6.mono C6.size)
        have t0 := tblk_cell (i := 0) hq2 rfl
        have t1 := tblk_cell (i := 1) hq2 rfl
        have t2 := tblk_cell (i := 2) hq2 rfl
        have t3 := tblk_cell (i := 3) hq2 rfl
        have t4 := tblk_cell (i := 4) hq2 rfl
        clear C6 B6 H6 hq s0 s1 s2 s3 s4
        go_wp2
        go_ret
        exact ⟨rfl, C7⟩
      · have hc' : ¬ c = 0 := hc
        clear hc
        go_enter Tryd.func3, Tryd.ntmps3
        go_wp2_with fail
        refine (HR.out _ (Below.refl _ _)).mono ?_
        rintro e w1 ⟨rfl, C1⟩
        clear HR
        go_wp2_with fail
        refine (H1.out _ C1).mono ?_
        rintro e w2 ⟨rfl, B2⟩
        have C2 := C1.trans (B2.mono C1.size)
        clear C1 B2 H1
        have C3 := C2.alloc C2.size (.cells #[.string m, .string t, .int .i64 mi, .slice none 0 0, .slice none 0 0] 26)
        have hr := tblk_new w2 (.cells #[.string m, .string t, .int .i64 mi, .slice none 0 0, .slice none 0 0] 26)
        have a0 := tblk_cell (i := 0) hr rfl
        have a1 := tblk_cell (i := 1) hr rfl
        have a2 := tblk_cell (i := 2) hr rfl
        have a3 := tblk_cell (i := 3) hr rfl
        have a4 := tblk_cell (i := 4) hr rfl
        clear C2 H5
        have C4 := C3
        clear C3 hr a0 a1 a2 a3 a4
        go_wp2_with fail
        refine (H2.out _ C4).mono ?_
        rintro e w5 ⟨rfl, B5⟩
        have C5 := C4.trans (B5.mono C4.size)
        clear C4 B5 H2
        have C6 := C5.alloc C5.size (.cells #[.int .i64 cd, .string ⟨#[]⟩, .int .i64 mn, .slice none 0 0, .slice none 0 0] 31)
        have hq := tblk_new w5 (.cells #[.int .i64 cd, .string ⟨#[]⟩, .int .i64 mn, .slice none 0 0, .slice none 0 0] 31)
        have s0 := tblk_cell (i := 0) hq rfl
        have s1 := tblk_cell (i := 1) hq rfl
        have s2 := tblk_cell (i := 2) hq rfl
        have s3 := tblk_cell (i := 3) hq rfl
        have s4 := tblk_cell (i := 4) hq rfl
        clear C5
        go_wp2_with fail
        refine (H6.out _ C6).mono ?_
        generalize w5.alloc (.cells #[.int .i64 cd, .string ⟨#[]⟩, .int .i64 mn, .slice none 0 0, .slice none 0 0] 31) = W5 at *
        rintro e w6 ⟨rfl, B6⟩
        have hq2 := tblk_below hq B6
        have C7 := C6.trans (B6.mono C6.size)
        have t0 := tblk_cell (i := 0) hq2 rfl
        have t1 := tblk_cell (i := 1) hq2 rfl
        have t2 := tblk_cell (i := 2) hq2 rfl
        have t3 := tblk_cell (i := 3) hq2 rfl
        have t4 := tblk_cell (i := 4) hq2 rfl
        clear C6 B6 H6 hq s0 s1 s2 s3 s4
        go_wp2
        go_ret
        exact ⟨rfl, C7⟩
end Go.Proofs.YtflgjhknobnnaacDoor
