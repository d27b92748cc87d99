/- The reference's Request and Closes; FrameRequests, walked. -/
import Derived.Test.YtflgjhknobnnaaaDoorFrD
import Derived.Test.YtflgjhknobnnaaaDoorFrE
namespace Go.Proofs.YtflgjhknobnnaaaDoor
open Go.ChangeShapes Go.WideShapes Go.ChangeAt Go.RowKit
set_option linter.unusedVariables false

def reqP (E : Int × Int × Int) : Int × Bool × Int := (E.2.1, decide (E.1 = 2), E.2.2)

set_option maxHeartbeats 1000000 in
theorem rrequest_any (fs : Fs) (a : Option Addr) (c : Nat) (minor : Int) (w : World) (hf : Fds w.heap.size w (.slice a fs.length c) fs) (hb : FBd 1048576 fs) (hl : fs.length ≤ 1024) :
    Calls Tryd.prog 10 #[.slice a fs.length c, .int .i64 minor] w fun e w' => e = .returned (.tuple #[.int .i64 (reqF fs minor).1, .bool (reqF fs minor).2.1, .int .i64 (reqF fs minor).2.2]) ∧ Below w.heap.size w w' := by
  have H10 := rthere_any fs a c lCL w hf hb (by decide) hl
  rw [thereF_congr fold_CL] at H10
  have H1 : Hid (Calls Tryd.prog 18 #[.slice a fs.length c, .string ⟨#[99, 111, 110, 116, 101, 110, 116, 45, 108, 101, 110, 103, 116, 104]⟩] w fun e w' => e = .returned (.bool (thereF fs tCL)) ∧ Below w.heap.size w w') := H10
  have H2 : Hid (∀ W, Below w.heap.size w W → Calls Tryd.prog 18 #[.slice a fs.length c, .string ⟨#[116, 114, 97, 110, 115, 102, 101, 114, 45, 101, 110, 99, 111, 100, 105, 110, 103]⟩] W fun e w' => e = .returned (.bool (thereF fs tTE)) ∧ Below W.heap.size W w') := fun W b => by
    have k := rthere_any fs a c lTE W (hf.over b) hb (by decide) hl
    rw [thereF_congr fold_TE] at k
    exact k
  have H3 : Hid (∀ W, Below w.heap.size w W → Calls Tryd.prog 19 #[.slice a fs.length c] W fun e w' => e = .returned (.bool (chunkedF fs)) ∧ Below W.heap.size W w') := fun W b => rcoded_any fs a c W (hf.over b) hb hl
  have H4 : Hid (∀ W, Below w.heap.size w W → Calls Tryd.prog 20 #[.slice a fs.length c] W fun e w' => e = .returned (.tuple #[.int .i64 (lengthF fs).1, .bool (lengthF fs).2]) ∧ Below W.heap.size W w') := fun W b => rlength_any fs a c W (hf.over b) hb hl
  have hbd := lenL_bd (listF fs tCL)
  have e0 : reqF fs minor = reqP (toldP (thereF fs tTE) (thereF fs tCL) (chunkedF fs) (lengthF fs) minor) := rfl
  rw [e0]
  have hbd2 : 0 ≤ (lengthF fs).1 ∧ (lengthF fs).1 < 1000000000000000000 := hbd
  clear hf hb hl hbd e0 H10
  generalize thereF fs tTE = te at *
  generalize thereF fs tCL = cl at *
  generalize chunkedF fs = ch at *
  generalize lengthF fs = ln at *
  obtain ⟨n, r⟩ := ln
  simp only at H4 hbd2
  obtain ⟨b1, b2⟩ := hbd2
  generalize hE : reqP (toldP te cl ch (n, r) minor) = E
  have HE : Hid (reqP (toldP te cl ch (n, r) minor) = E) := hE
  clear hE
  obtain ⟨E1, E2, E3⟩ := E
  cases te
  · cases cl
    · have HK : Hid ((0, false, 0) = (E1, E2, E3)) := HE.out
      clear HE
      go_enter Tryd.func10, Tryd.ntmps10
      go_wp2_with fail
      refine H1.out.mono ?_
      rintro e w1 ⟨rfl, B1⟩
      go_wp2_with fail
      refine (H2.out _ B1).mono ?_
      rintro e w2 ⟨rfl, B2⟩
      have D2 := B1.trans (B2.mono B1.size)
      go_wp2
      go_ret3
      exact ⟨ret3_ibi (congrArg Prod.fst HK.out) (congrArg (·.2.1) HK.out) (congrArg (·.2.2) HK.out), D2⟩
    · cases r
      · have HK : Hid ((0, false, 400) = (E1, E2, E3)) := HE.out
        clear HE
        go_enter Tryd.func10, Tryd.ntmps10
        go_wp2_with fail
        refine H1.out.mono ?_
        rintro e w1 ⟨rfl, B1⟩
        go_wp2_with fail
        refine (H2.out _ B1).mono ?_
        rintro e w2 ⟨rfl, B2⟩
        have D2 := B1.trans (B2.mono B1.size)
        go_wp2_with fail
        refine (H4.out _ D2).mono ?_
        rintro e w3 ⟨rfl, B3⟩
        have D3 := D2.trans (B3.mono D2.size)
        go_wp2
        go_ret3
        exact ⟨ret3_ibi (congrArg Prod.fst HK.out) (congrArg (·.2.1) HK.out) (congrArg (·.2.2) HK.out), D3⟩
      · by_cases hn : 4096 < n
        · have HK : Hid ((0, false, 413) = (E1, E2, E3)) := by
            have k := HE.out
            unfold toldP at k
            simp only [Bool.false_and, Bool.false_eq_true, if_false, Bool.true_eq_false, if_pos hn] at k
            exact k
          clear HE
          go_enter Tryd.func10, Tryd.ntmps10
          go_wp2_with fail
          refine H1.out.mono ?_
          rintro e w1 ⟨rfl, B1⟩
          go_wp2_with fail
          refine (H2.out _ B1).mono ?_
          rintro e w2 ⟨rfl, B2⟩
          have D2 := B1.trans (B2.mono B1.size)
          go_wp2_with fail
          refine (H4.out _ D2).mono ?_
          rintro e w3 ⟨rfl, B3⟩
          have D3 := D2.trans (B3.mono D2.size)
          go_wp2
          go_ret3
          exact ⟨ret3_ibi (congrArg Prod.fst HK.out) (congrArg (·.2.1) HK.out) (congrArg (·.2.2) HK.out), D3⟩
        · have HK : Hid ((n, false, 0) = (E1, E2, E3)) := by
            have k := HE.out
            unfold toldP at k
            simp only [Bool.false_and, Bool.false_eq_true, if_false, Bool.true_eq_false, if_neg hn] at k
            exact k
          clear HE
          go_enter Tryd.func10, Tryd.ntmps10
          go_wp2_with fail
          refine H1.out.mono ?_
          rintro e w1 ⟨rfl, B1⟩
          go_wp2_with fail
          refine (H2.out _ B1).mono ?_
          rintro e w2 ⟨rfl, B2⟩
          have D2 := B1.trans (B2.mono B1.size)
          go_wp2_with fail
          refine (H4.out _ D2).mono ?_
          rintro e w3 ⟨rfl, B3⟩
          have D3 := D2.trans (B3.mono D2.size)
          go_wp2
          go_ret3
          exact ⟨ret3_ibi (congrArg Prod.fst HK.out) (congrArg (·.2.1) HK.out) (congrArg (·.2.2) HK.out), D3⟩
  · cases cl
    · by_cases hm : minor = 0
      · subst hm
        have HK : Hid ((0, false, 400) = (E1, E2, E3)) := HE.out
        clear HE
        go_enter Tryd.func10, Tryd.ntmps10
        go_wp2_with fail
        refine H1.out.mono ?_
        rintro e w1 ⟨rfl, B1⟩
        go_wp2_with fail
        refine (H2.out _ B1).mono ?_
        rintro e w2 ⟨rfl, B2⟩
        have D2 := B1.trans (B2.mono B1.size)
        go_wp2
        go_ret3
        exact ⟨ret3_ibi (congrArg Prod.fst HK.out) (congrArg (·.2.1) HK.out) (congrArg (·.2.2) HK.out), D2⟩
      · have hm2 : (minor == 0) = false := by simpa using hm
        have hm3 : decide (minor = 0) = false := decide_eq_false hm
        have HE2 : Hid (reqP (if ch = true then ((2 : Int), (0 : Int), (0 : Int)) else (0, 0, 501)) = (E1, E2, E3)) := by
          have k := HE.out
          unfold toldP at k
          rw [hm3] at k
          exact k
        clear hm hm3
        cases ch
        · have HK : Hid ((0, false, 501) = (E1, E2, E3)) := HE2.out
          clear HE2
          clear HE
          go_enter Tryd.func10, Tryd.ntmps10
          go_wp2_with fail
          refine H1.out.mono ?_
          rintro e w1 ⟨rfl, B1⟩
          go_wp2_with fail
          refine (H2.out _ B1).mono ?_
          rintro e w2 ⟨rfl, B2⟩
          have D2 := B1.trans (B2.mono B1.size)
          go_wp2_with fail
          refine (H3.out _ D2).mono ?_
          rintro e w3 ⟨rfl, B3⟩
          have D3 := D2.trans (B3.mono D2.size)
          go_wp2
          go_ret3
          exact ⟨ret3_ibi (congrArg Prod.fst HK.out) (congrArg (·.2.1) HK.out) (congrArg (·.2.2) HK.out), D3⟩
        · have HK : Hid ((0, true, 0) = (E1, E2, E3)) := HE2.out
          clear HE2
          clear HE
          go_enter Tryd.func10, Tryd.ntmps10
          go_wp2_with fail
          refine H1.out.mono ?_
          rintro e w1 ⟨rfl, B1⟩
          go_wp2_with fail
          refine (H2.out _ B1).mono ?_
          rintro e w2 ⟨rfl, B2⟩
          have D2 := B1.trans (B2.mono B1.size)
          go_wp2_with fail
          refine (H3.out _ D2).mono ?_
          rintro e w3 ⟨rfl, B3⟩
          have D3 := D2.trans (B3.mono D2.size)
          go_wp2
          go_ret3
          exact ⟨ret3_ibi (congrArg Prod.fst HK.out) (congrArg (·.2.1) HK.out) (congrArg (·.2.2) HK.out), D3⟩
    · have HK : Hid ((0, false, 400) = (E1, E2, E3)) := HE.out
      clear HE
      go_enter Tryd.func10, Tryd.ntmps10
      go_wp2_with fail
      refine H1.out.mono ?_
      rintro e w1 ⟨rfl, B1⟩
      go_wp2_with fail
      refine (H2.out _ B1).mono ?_
      rintro e w2 ⟨rfl, B2⟩
      have D2 := B1.trans (B2.mono B1.size)
      go_wp2
      go_ret3
      exact ⟨ret3_ibi (congrArg Prod.fst HK.out) (congrArg (·.2.1) HK.out) (congrArg (·.2.2) HK.out), D2⟩

set_option maxHeartbeats 1000000 in
theorem rcloses_any (fs : Fs) (a : Option Addr) (c : Nat) (minor : Int) (w : World) (hf : Fds w.heap.size w (.slice a fs.length c) fs) (hb : FBd 1048576 fs) (hl : fs.length ≤ 1024) :
    Calls Tryd.prog 12 #[.slice a fs.length c, .int .i64 minor] w fun e w' => e = .returned (.bool (closesF fs minor)) ∧ Below w.heap.size w w' := by
  have H10 := rhas_any fs a c lCo tClose w hf hb (by decide) (by decide) hl
  rw [hasF_congr fold_Co] at H10
  have H1 : Hid (Calls Tryd.prog 22 #[.slice a fs.length c, .string ⟨#[99, 111, 110, 110, 101, 99, 116, 105, 111, 110]⟩, .string ⟨#[99, 108, 111, 115, 101]⟩] w fun e w' => e = .returned (.bool (hasF fs tCo tClose)) ∧ Below w.heap.size w w') := H10
  have H2 : Hid (∀ W, Below w.heap.size w W → Calls Tryd.prog 22 #[.slice a fs.length c, .string ⟨#[99, 111, 110, 110, 101, 99, 116, 105, 111, 110]⟩, .string ⟨#[107, 101, 101, 112, 45, 97, 108, 105, 118, 101]⟩] W fun e w' => e = .returned (.bool (hasF fs tCo tKeep)) ∧ Below W.heap.size W w') := fun W b => by
    have k := rhas_any fs a c lCo tKeep W (hf.over b) hb (by decide) (by decide) hl
    rw [hasF_congr fold_Co] at k
    exact k
  unfold closesF
  clear hf hb hl H10
  generalize hasF fs tCo tClose = p at *
  generalize hasF fs tCo tKeep = q at *
  cases p
  · by_cases hm : minor = 0
    · subst hm
      go_enter Tryd.func12, Tryd.ntmps12
      go_wp2_with fail
      refine H1.out.mono ?_
      rintro e w1 ⟨rfl, B1⟩
      go_wp2_with fail
      refine (H2.out _ B1).mono ?_
      rintro e w2 ⟨rfl, B2⟩
      go_wp2
      go_ret
      exact ⟨ret_bool (by simp), B1.trans (B2.mono B1.size)⟩
    · have hm2 : (minor == 0) = false := by simpa using hm
      rw [decide_eq_false hm]
      clear hm
      go_enter Tryd.func12, Tryd.ntmps12
      go_wp2_with fail
      refine H1.out.mono ?_
      rintro e w1 ⟨rfl, B1⟩
      go_wp2
      go_ret
      exact ⟨rfl, B1⟩
  · go_enter Tryd.func12, Tryd.ntmps12
    go_wp2_with fail
    refine H1.out.mono ?_
    rintro e w1 ⟨rfl, B1⟩
    go_wp2
    go_ret
    exact ⟨rfl, B1⟩

set_option maxHeartbeats 1000000 in
theorem requests_walk (fs : Fs) (a : Option Addr) (n c : Nat) (minor : Int) (w : World) (hf : Fds w.heap.size w (.slice a n c) fs) (hb : FBd 1048576 fs) (hM : MaxL w) :
    Calls Tryd.prog 3 #[.slice a n c, .int .i64 minor] w fun e w' => e = .returned (.bool true) ∧ Below w.heap.size w w' := by
  have hlm := hf.len
  obtain ⟨hle, h2, h3⟩ := hlm
  unfold maxLen at h3
  subst hle
  by_cases hbig : (200 : Int) < (fs.length : Int)
  · clear hf hb
    go_enter Tryd.func3, Tryd.ntmps3
    go_wp2_with fail
    refine (alive7_any _ hM).mono ?_
    rintro e w1 ⟨rfl, B1⟩
    go_wp2
    go_ret
    exact ⟨rfl, B1⟩
  · have hl : fs.length ≤ 1024 := by omega
    have H1 : Hid (∀ W, Below w.heap.size w W → Calls Tryd.prog 9 #[.slice a fs.length c, .int .i64 minor] W fun e w' => e = .returned (.tuple #[.int .i64 (reqF fs minor).1, .bool (reqF fs minor).2.1, .int .i64 (reqF fs minor).2.2]) ∧ Below W.heap.size W w') := fun W b => request_any fs a c minor W (hf.over b) hb hl (hM.below b)
    have H2 : Hid (∀ W, Below w.heap.size w W → Calls Tryd.prog 10 #[.slice a fs.length c, .int .i64 minor] W fun e w' => e = .returned (.tuple #[.int .i64 (reqF fs minor).1, .bool (reqF fs minor).2.1, .int .i64 (reqF fs minor).2.2]) ∧ Below W.heap.size W w') := fun W b => rrequest_any fs a c minor W (hf.over b) hb hl
    have H3 : Hid (∀ W, Below w.heap.size w W → Calls Tryd.prog 11 #[.slice a fs.length c, .int .i64 minor] W fun e w' => e = .returned (.bool (closesF fs minor)) ∧ Below W.heap.size W w') := fun W b => closes_any fs a c minor W (hf.over b) hb hl (hM.below b)
    have H4 : Hid (∀ W, Below w.heap.size w W → Calls Tryd.prog 12 #[.slice a fs.length c, .int .i64 minor] W fun e w' => e = .returned (.bool (closesF fs minor)) ∧ Below W.heap.size W w') := fun W b => rcloses_any fs a c minor W (hf.over b) hb hl
    clear hf hb
    generalize reqF fs minor = E at *
    obtain ⟨E1, E2, E3⟩ := E
    generalize closesF fs minor = cl at *
    go_enter Tryd.func3, Tryd.ntmps3
    go_wp2_with fail
    refine (alive7_any _ hM).mono ?_
    rintro e w1 ⟨rfl, B1⟩
    go_wp2_with fail
    refine (H1.out _ B1).mono ?_
    rintro e w2 ⟨rfl, B2⟩
    have D2 := B1.trans (B2.mono B1.size)
    go_wp2_with fail
    refine (H2.out _ D2).mono ?_
    rintro e w3 ⟨rfl, B3⟩
    have D3 := D2.trans (B3.mono D2.size)
    go_wp2_with fail
    refine (H3.out _ D3).mono ?_
    rintro e w4 ⟨rfl, B4⟩
    have D4 := D3.trans (B4.mono D3.size)
    go_wp2_with fail
    refine (H4.out _ D4).mono ?_
    rintro e w5 ⟨rfl, B5⟩
    have D5 := D4.trans (B5.mono D4.size)
    go_wp2
    go_ret
    exact ⟨ret_bool (by simp), D5⟩
end Go.Proofs.YtflgjhknobnnaaaDoor
