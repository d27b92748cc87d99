/- Package frame: Request, Response and Closes. -/
import Derived.Test.YthbjdbookiejeabGreatDoorFrB
namespace Go.Proofs.YthbjdbookiejeabGreatDoor
open Go.ChangeShapes Go.WideShapes Go.ChangeAt Go.RowKit
set_option linter.unusedVariables false

theorem ret3_iii {x y z a b c : Int} (h1 : x = a) (h2 : y = b) (h3 : z = c) : Ending.returned (.tuple #[.int .i64 x, .int .i64 y, .int .i64 z]) = .returned (.tuple #[.int .i64 a, .int .i64 b, .int .i64 c]) := by rw [h1, h2, h3]
/-- told, of what the inner calls answer. -/
def toldP (te cl ch : Bool) (ln : Int × Bool) (minor : Int) : Int × Int × Int :=
  if (te && (cl || decide (minor = 0))) = true then (0, 0, 400)
  else if te = true then (if ch = true then (2, 0, 0) else (0, 0, 501))
  else if cl = false then (3, 0, 0)
  else if ln.2 = false then (0, 0, 400)
  else if 4096 < ln.1 then (0, 0, 413) else (1, ln.1, 0)
theorem toldF_eq (fs : Fs) (minor : Int) : toldF fs minor = toldP (thereF fs tTE) (thereF fs tCL) (chunkedF fs) (lengthF fs) minor := rfl

set_option maxHeartbeats 1000000 in
theorem told_any (fs : Fs) (a : Option Addr) (c : Nat) (minor : Int) (w : World) (hf : Fds w.heap.size w (.slice a fs.length c) fs) (hb : FBd 1048576 fs) (hl : fs.length ≤ 1024) (hM : MaxL w) :
    Calls Tryz.prog 66 #[.slice a fs.length c, .int .i64 minor] w fun e w' => e = .returned (.tuple #[.int .i64 (toldF fs minor).1, .int .i64 (toldF fs minor).2.1, .int .i64 (toldF fs minor).2.2]) ∧ Below w.heap.size w w' := by
  have H1 : Hid (Calls Tryz.prog 98 #[.slice a fs.length c, .string ⟨#[67, 111, 110, 116, 101, 110, 116, 45, 76, 101, 110, 103, 116, 104]⟩] w fun e w' => e = .returned (.bool (thereF fs tCL)) ∧ Below w.heap.size w w') := there_any fs a c tCL w hf hb (by decide) hl
  have H2 : Hid (∀ W, Below w.heap.size w W → Calls Tryz.prog 98 #[.slice a fs.length c, .string ⟨#[84, 114, 97, 110, 115, 102, 101, 114, 45, 69, 110, 99, 111, 100, 105, 110, 103]⟩] W fun e w' => e = .returned (.bool (thereF fs tTE)) ∧ Below W.heap.size W w') := fun W b => there_any fs a c tTE W (hf.over b) hb (by decide) hl
  have H3 : Hid (∀ W, Below w.heap.size w W → Calls Tryz.prog 99 #[.slice a fs.length c] W fun e w' => e = .returned (.bool (chunkedF fs)) ∧ Below W.heap.size W w') := fun W b => chunked_any fs a c W (hf.over b) hb hl (hM.below b)
  have H4 : Hid (∀ W, Below w.heap.size w W → Calls Tryz.prog 100 #[.slice a fs.length c] W fun e w' => e = .returned (.tuple #[.int .i64 (lengthF fs).1, .bool (lengthF fs).2]) ∧ Below W.heap.size W w') := fun W b => length_any fs a c W (hf.over b) hb hl (hM.below b)
  have hbd := lenL_bd (listF fs tCL)
  rw [toldF_eq]
  have hbd2 : 0 ≤ (lengthF fs).1 ∧ (lengthF fs).1 < 1000000000000000000 := hbd
  clear hf hb hl hM hbd
  generalize thereF fs tTE = te at *
  generalize thereF fs tCL = cl at *
  generalize chunkedF fs = ch at *
  generalize lengthF fs = ln at *
  obtain ⟨n, r⟩ := ln
  simp only at H4 hbd2
  obtain ⟨b1, b2⟩ := hbd2
  generalize hE : toldP te cl ch (n, r) minor = E
  have HE : Hid (toldP te cl ch (n, r) minor = E) := hE
  clear hE
  obtain ⟨E1, E2, E3⟩ := E
  cases te
  · cases cl
    · have HK : Hid ((3, 0, 0) = (E1, E2, E3)) := HE.out
      clear HE
      go_enter Tryz.func66, Tryz.ntmps66
      go_wp2_with fail
      refine H1.out.mono ?_
      rintro e w1 ⟨rfl, B1⟩
      go_wp2_with fail
      refine (H2.out _ B1).mono ?_
      rintro e w2 ⟨rfl, B2⟩
      go_wp2
      go_ret3
      exact ⟨ret3_iii (congrArg Prod.fst HK.out) (congrArg (·.2.1) HK.out) (congrArg (·.2.2) HK.out), B1.trans (B2.mono B1.size)⟩
    · cases r
      · have HK : Hid ((0, 0, 400) = (E1, E2, E3)) := HE.out
        clear HE
        go_enter Tryz.func66, Tryz.ntmps66
        go_wp2_with fail
        refine H1.out.mono ?_
        rintro e w1 ⟨rfl, B1⟩
        go_wp2_with fail
        refine (H2.out _ B1).mono ?_
        rintro e w2 ⟨rfl, B2⟩
        have D2 := B1.trans (B2.mono B1.size)
        go_wp2_with fail
        refine (H4.out _ D2).mono ?_
        rintro e w3 ⟨rfl, B3⟩
        go_wp2
        go_ret3
        exact ⟨ret3_iii (congrArg Prod.fst HK.out) (congrArg (·.2.1) HK.out) (congrArg (·.2.2) HK.out), D2.trans (B3.mono D2.size)⟩
      · by_cases hn : 4096 < n
        · have HK : Hid ((0, 0, 413) = (E1, E2, E3)) := by
            have k := HE.out
            unfold toldP at k
            simp only [Bool.false_and, Bool.false_eq_true, if_false, Bool.true_eq_false, if_pos hn] at k
            exact k
          clear HE
          go_enter Tryz.func66, Tryz.ntmps66
          go_wp2_with fail
          refine H1.out.mono ?_
          rintro e w1 ⟨rfl, B1⟩
          go_wp2_with fail
          refine (H2.out _ B1).mono ?_
          rintro e w2 ⟨rfl, B2⟩
          have D2 := B1.trans (B2.mono B1.size)
          go_wp2_with fail
          refine (H4.out _ D2).mono ?_
          rintro e w3 ⟨rfl, B3⟩
          go_wp2
          go_ret3
          exact ⟨ret3_iii (congrArg Prod.fst HK.out) (congrArg (·.2.1) HK.out) (congrArg (·.2.2) HK.out), D2.trans (B3.mono D2.size)⟩
        · have HK : Hid ((1, n, 0) = (E1, E2, E3)) := by
            have k := HE.out
            unfold toldP at k
            simp only [Bool.false_and, Bool.false_eq_true, if_false, Bool.true_eq_false, if_neg hn] at k
            exact k
          clear HE
          go_enter Tryz.func66, Tryz.ntmps66
          go_wp2_with fail
          refine H1.out.mono ?_
          rintro e w1 ⟨rfl, B1⟩
          go_wp2_with fail
          refine (H2.out _ B1).mono ?_
          rintro e w2 ⟨rfl, B2⟩
          have D2 := B1.trans (B2.mono B1.size)
          go_wp2_with fail
          refine (H4.out _ D2).mono ?_
          rintro e w3 ⟨rfl, B3⟩
          go_wp2
          go_ret3
          exact ⟨ret3_iii (congrArg Prod.fst HK.out) (congrArg (·.2.1) HK.out) (congrArg (·.2.2) HK.out), D2.trans (B3.mono D2.size)⟩
  · cases cl
    · by_cases hm : minor = 0
      · subst hm
        have HK : Hid ((0, 0, 400) = (E1, E2, E3)) := HE.out
        clear HE
        go_enter Tryz.func66, Tryz.ntmps66
        go_wp2_with fail
        refine H1.out.mono ?_
        rintro e w1 ⟨rfl, B1⟩
        go_wp2_with fail
        refine (H2.out _ B1).mono ?_
        rintro e w2 ⟨rfl, B2⟩
        go_wp2
        go_ret3
        exact ⟨ret3_iii (congrArg Prod.fst HK.out) (congrArg (·.2.1) HK.out) (congrArg (·.2.2) HK.out), B1.trans (B2.mono B1.size)⟩
      · have hm2 : (minor == 0) = false := by simpa using hm
        have hm3 : decide (minor = 0) = false := decide_eq_false hm
        have HE2 : Hid ((if ch = true then ((2 : Int), (0 : Int), (0 : Int)) else (0, 0, 501)) = (E1, E2, E3)) := by
          have k := HE.out
          unfold toldP at k
          rw [hm3] at k
          exact k
        clear HE hm hm3
        cases ch
        · have HK : Hid ((0, 0, 501) = (E1, E2, E3)) := HE2.out
          clear HE2
          go_enter Tryz.func66, Tryz.ntmps66
          go_wp2_with fail
          refine H1.out.mono ?_
          rintro e w1 ⟨rfl, B1⟩
          go_wp2_with fail
          refine (H2.out _ B1).mono ?_
          rintro e w2 ⟨rfl, B2⟩
          have D2 := B1.trans (B2.mono B1.size)
          go_wp2_with fail
          refine (H3.out _ D2).mono ?_
          rintro e w3 ⟨rfl, B3⟩
          go_wp2
          go_ret3
          exact ⟨ret3_iii (congrArg Prod.fst HK.out) (congrArg (·.2.1) HK.out) (congrArg (·.2.2) HK.out), D2.trans (B3.mono D2.size)⟩
        · have HK : Hid ((2, 0, 0) = (E1, E2, E3)) := HE2.out
          clear HE2
          go_enter Tryz.func66, Tryz.ntmps66
          go_wp2_with fail
          refine H1.out.mono ?_
          rintro e w1 ⟨rfl, B1⟩
          go_wp2_with fail
          refine (H2.out _ B1).mono ?_
          rintro e w2 ⟨rfl, B2⟩
          have D2 := B1.trans (B2.mono B1.size)
          go_wp2_with fail
          refine (H3.out _ D2).mono ?_
          rintro e w3 ⟨rfl, B3⟩
          go_wp2
          go_ret3
          exact ⟨ret3_iii (congrArg Prod.fst HK.out) (congrArg (·.2.1) HK.out) (congrArg (·.2.2) HK.out), D2.trans (B3.mono D2.size)⟩
    · have HK : Hid ((0, 0, 400) = (E1, E2, E3)) := HE.out
      clear HE
      go_enter Tryz.func66, Tryz.ntmps66
      go_wp2_with fail
      refine H1.out.mono ?_
      rintro e w1 ⟨rfl, B1⟩
      go_wp2_with fail
      refine (H2.out _ B1).mono ?_
      rintro e w2 ⟨rfl, B2⟩
      go_wp2
      go_ret3
      exact ⟨ret3_iii (congrArg Prod.fst HK.out) (congrArg (·.2.1) HK.out) (congrArg (·.2.2) HK.out), B1.trans (B2.mono B1.size)⟩

theorem ret3_ibi {x y : Int} {p q : Bool} {a b : Int} (h1 : x = y) (h2 : p = q) (h3 : a = b) : Ending.returned (.tuple #[.int .i64 x, .bool p, .int .i64 a]) = .returned (.tuple #[.int .i64 y, .bool q, .int .i64 b]) := by rw [h1, h2, h3]
theorem ret3_iib {x y : Int} {p q : Bool} {a b : Int} (h1 : x = y) (h3 : a = b) (h2 : p = q) : Ending.returned (.tuple #[.int .i64 x, .int .i64 a, .bool p]) = .returned (.tuple #[.int .i64 y, .int .i64 b, .bool q]) := by rw [h1, h2, h3]

set_option maxHeartbeats 1000000 in
theorem request_any (fs : Fs) (a : Option Addr) (c : Nat) (minor : Int) (w : World) (hf : Fds w.heap.size w (.slice a fs.length c) fs) (hb : FBd 1048576 fs) (hl : fs.length ≤ 1024) (hM : MaxL w) :
    Calls Tryz.prog 31 #[.slice a fs.length c, .int .i64 minor] w fun e w' => e = .returned (.tuple #[.int .i64 (reqF fs minor).1, .bool (reqF fs minor).2.1, .int .i64 (reqF fs minor).2.2]) ∧ Below w.heap.size w w' := by
  have H : Hid (Calls Tryz.prog 66 #[.slice a fs.length c, .int .i64 minor] w fun e w' => e = .returned (.tuple #[.int .i64 (toldF fs minor).1, .int .i64 (toldF fs minor).2.1, .int .i64 (toldF fs minor).2.2]) ∧ Below w.heap.size w w') := told_any fs a c minor w hf hb hl hM
  unfold reqF
  clear hf hb hl hM
  generalize toldF fs minor = E at *
  obtain ⟨E1, E2, E3⟩ := E
  go_enter Tryz.func31, Tryz.ntmps31
  go_wp2_with fail
  refine H.out.mono ?_
  rintro e w1 ⟨rfl, B1⟩
  go_wp2
  go_ret3
  exact ⟨ret3_ibi rfl (eq_dec _ _) rfl, B1⟩

set_option maxHeartbeats 1000000 in
theorem bare_any (m : ByteArray) (code : Int) (w : World) : Calls Tryz.prog 103 #[.string m, .int .i64 code] w fun e w' => e = .returned (.bool (bareF m code)) ∧ w' = w := by
  have HQ : Hid ((m.toList == [72, 69, 65, 68]) = decide (m = ⟨#[72, 69, 65, 68]⟩)) := by
    rw [Hid, ByteArray.toList_eq]
    by_cases h : m = ⟨#[72, 69, 65, 68]⟩
    · rw [decide_eq_true h, h]; rfl
    · rw [decide_eq_false h]
      rw [beq_eq_false_iff_ne]
      intro e
      exact h (ByteArray.ext (Array.toList_inj.1 e))
  unfold bareF
  go_enter Tryz.func103, Tryz.ntmps103
  go_wp2
  all_goals
    go_ret
    refine ⟨ret_bool ?_, rfl⟩
    first
      | rfl
      | (rw [← HQ.out]; simp_all [eq_dec])

set_option maxHeartbeats 1000000 in
theorem resp_bare (m reason : ByteArray) (code minor : Int) (a b : Option Addr) (n c x y : Nat) (w : World) (h : bareF m code = true) :
    Calls Tryz.prog 70 #[.string m, .agg #[.int .i64 code, .string reason, .int .i64 minor, .slice a n c, .slice b x y]] w fun e w' => e = .returned (.tuple #[.int .i64 0, .int .i64 0, .bool true]) ∧ Below w.heap.size w w' := by
  have H : Hid (∀ W, Calls Tryz.prog 103 #[.string m, .int .i64 code] W fun e w' => e = .returned (.bool true) ∧ w' = W) := fun W => by have k := bare_any m code W; rw [h] at k; exact k
  clear h
  go_enter Tryz.func70, Tryz.ntmps70
  go_wp2_with fail
  refine (H.out _).mono ?_
  rintro e w1 ⟨rfl, rfl⟩
  go_wp2
  go_ret3
  exact ⟨rfl, (Below.refl _ _).alloc (Nat.le_refl _) _⟩

set_option maxHeartbeats 1000000 in
theorem resp_full (m reason : ByteArray) (code minor : Int) (fs : Fs) (a b : Option Addr) (c x y : Nat) (w : World) (h : bareF m code = false) (hf : Fds w.heap.size w (.slice a fs.length c) fs) (hb : FBd 1048576 fs) (hl : fs.length ≤ 1024) (hM : MaxL w) :
    Calls Tryz.prog 70 #[.string m, .agg #[.int .i64 code, .string reason, .int .i64 minor, .slice a fs.length c, .slice b x y]] w fun e w' => e = .returned (.tuple #[.int .i64 (toldF fs minor).1, .int .i64 (toldF fs minor).2.1, .bool (decide ((toldF fs minor).2.2 = 0))]) ∧ Below w.heap.size w w' := by
  have H : Hid (∀ W, Calls Tryz.prog 103 #[.string m, .int .i64 code] W fun e w' => e = .returned (.bool false) ∧ w' = W) := fun W => by have k := bare_any m code W; rw [h] at k; exact k
  have C1 : Below w.heap.size w (w.alloc (.cells #[.int .i64 code, .string reason, .int .i64 minor, .slice a fs.length c, .slice b x y] 34)) := (Below.refl _ _).alloc (Nat.le_refl _) _
  have HT : Hid (∀ W, Below w.heap.size w W → Calls Tryz.prog 66 #[.slice a fs.length c, .int .i64 minor] W fun e w' => e = .returned (.tuple #[.int .i64 (toldF fs minor).1, .int .i64 (toldF fs minor).2.1, .int .i64 (toldF fs minor).2.2]) ∧ Below W.heap.size W w') := fun W b => told_any fs a c minor W (hf.over b) hb hl (hM.below b)
  clear h hf hb hl hM
  generalize toldF fs minor = E at *
  obtain ⟨E1, E2, E3⟩ := E
  go_enter Tryz.func70, Tryz.ntmps70
  go_wp2_with fail
  refine (H.out _).mono ?_
  rintro e w1 ⟨rfl, rfl⟩
  go_wp2_with fail
  refine (HT.out _ C1).mono ?_
  rintro e w2 ⟨rfl, B2⟩
  go_wp2
  go_ret3
  exact ⟨ret3_iib rfl rfl (eq_dec _ _), C1.trans (B2.mono C1.size)⟩
theorem response_any (m reason : ByteArray) (code minor : Int) (fs : Fs) (a b : Option Addr) (c x y : Nat) (w : World) (hf : Fds w.heap.size w (.slice a fs.length c) fs) (hb : FBd 1048576 fs) (hl : fs.length ≤ 1024) (hM : MaxL w) :
    Calls Tryz.prog 70 #[.string m, .agg #[.int .i64 code, .string reason, .int .i64 minor, .slice a fs.length c, .slice b x y]] w fun e w' => e = .returned (.tuple #[.int .i64 (respF m code minor fs).1, .int .i64 (respF m code minor fs).2.1, .bool (respF m code minor fs).2.2]) ∧ Below w.heap.size w w' := by
  unfold respF
  cases h : bareF m code
  · rw [if_neg (by decide)]
    exact resp_full m reason code minor fs a b c x y w h hf hb hl hM
  · rw [if_pos rfl]
    exact resp_bare m reason code minor a b fs.length c x y w h
end Go.Proofs.YthbjdbookiejeabGreatDoor
