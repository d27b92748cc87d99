/- The reference's Response; FrameResponses, walked. -/
import Derived.Test.YtflgjhknobnnaaaDoorFrF
import Derived.Deep.RegionHeld3
namespace Go.Proofs.YtflgjhknobnnaaaDoor
open Go.ChangeShapes Go.WideShapes Go.ChangeAt Go.RowKit
set_option linter.unusedVariables false

def respP (E : Int × Int × Int) : Int × Int × Bool := (E.1, E.2.1, decide (E.2.2 = 0))
/-- The response's own block stays. -/
structure RI (w : World) (o : Obj) (W : World) : Prop where
  below : Below w.heap.size w W
  blk : W.heap[w.heap.size]? = some o
theorem RI.drew {w W : World} {o : Obj} (h : RI w o W) : RI w o W.drew := ⟨h.below.drew, h.blk⟩
theorem RI.next {w W W' : World} {o : Obj} (h : RI w o W) (b : Below W.heap.size W W') : RI w o W' := ⟨h.below.trans (b.mono h.below.size), tblk_below h.blk b⟩

set_option maxRecDepth 100000 in
set_option maxHeartbeats 2000000 in
theorem rresp_full (m reason : ByteArray) (code minor : Int) (fs : Fs) (a b : Option Addr) (c x y : Nat) (w : World) (h : bareF m code = false) (hf : Fds w.heap.size w (.slice a fs.length c) fs) (hb : FBd 1048576 fs) (hl : fs.length ≤ 1024) :
    Calls Tryd.prog 14 #[.string m, .agg #[.int .i64 code, .string reason, .int .i64 minor, .slice a fs.length c, .slice b x y]] w fun e w' => e = .returned (.tuple #[.int .i64 (toldF fs minor).1, .int .i64 (toldF fs minor).2.1, .bool (decide ((toldF fs minor).2.2 = 0))]) ∧ Below w.heap.size w w' := by
  have q : ¬ m = ⟨#[72, 69, 65, 68]⟩ ∧ ¬ code < 200 ∧ ¬ code = 204 ∧ ¬ code = 304 := by
    unfold bareF at h
    simp at h
    exact ⟨h.1.1.1, by omega, h.1.2, h.2⟩
  obtain ⟨p1, q2, p3, p4⟩ := q
  have q1 : (m.toList == [72, 69, 65, 68]) = false := by
    rw [ByteArray.toList_eq, beq_eq_false_iff_ne]
    intro e
    exact p1 (ByteArray.ext (Array.toList_inj.1 e))
  have q3 : (code == 204) = false := by simpa using p3
  have q4 : (code == 304) = false := by simpa using p4
  have I0 : RI w (.cells #[.int .i64 code, .string reason, .int .i64 minor, .slice a fs.length c, .slice b x y] 29) (w.alloc (.cells #[.int .i64 code, .string reason, .int .i64 minor, .slice a fs.length c, .slice b x y] 29)) := ⟨(Below.refl _ _).alloc (Nat.le_refl _) _, tblk_new _ _⟩
  have H1 : Hid (∀ W, RI w (.cells #[.int .i64 code, .string reason, .int .i64 minor, .slice a fs.length c, .slice b x y] 29) W → Calls Tryd.prog 18 #[.slice a fs.length c, .string ⟨#[99, 111, 110, 116, 101, 110, 116, 45, 108, 101, 110, 103, 116, 104]⟩] W fun e w' => e = .returned (.bool (thereF fs tCL)) ∧ RI w (.cells #[.int .i64 code, .string reason, .int .i64 minor, .slice a fs.length c, .slice b x y] 29) w' ∧ w'.cell? ⟨w.heap.size, 3, none⟩ = some (.slice a fs.length c)) := fun W i => by
    have k := rthere_any fs a c lCL W (hf.over i.below) hb (by decide) hl
    rw [thereF_congr fold_CL] at k
    exact k.mono fun e w' z => ⟨z.1, i.next z.2, tblk_cell (i.next z.2).blk rfl⟩
  have H2 : Hid (∀ W, RI w (.cells #[.int .i64 code, .string reason, .int .i64 minor, .slice a fs.length c, .slice b x y] 29) W → Calls Tryd.prog 18 #[.slice a fs.length c, .string ⟨#[116, 114, 97, 110, 115, 102, 101, 114, 45, 101, 110, 99, 111, 100, 105, 110, 103]⟩] W fun e w' => e = .returned (.bool (thereF fs tTE)) ∧ RI w (.cells #[.int .i64 code, .string reason, .int .i64 minor, .slice a fs.length c, .slice b x y] 29) w' ∧ w'.cell? ⟨w.heap.size, 3, none⟩ = some (.slice a fs.length c)) := fun W i => by
    have k := rthere_any fs a c lTE W (hf.over i.below) hb (by decide) hl
    rw [thereF_congr fold_TE] at k
    exact k.mono fun e w' z => ⟨z.1, i.next z.2, tblk_cell (i.next z.2).blk rfl⟩
  have H3 : Hid (∀ W, RI w (.cells #[.int .i64 code, .string reason, .int .i64 minor, .slice a fs.length c, .slice b x y] 29) W → Calls Tryd.prog 19 #[.slice a fs.length c] W fun e w' => e = .returned (.bool (chunkedF fs)) ∧ RI w (.cells #[.int .i64 code, .string reason, .int .i64 minor, .slice a fs.length c, .slice b x y] 29) w') := fun W i => (rcoded_any fs a c W (hf.over i.below) hb hl).mono fun e w' z => ⟨z.1, i.next z.2⟩
  have H4 : Hid (∀ W, RI w (.cells #[.int .i64 code, .string reason, .int .i64 minor, .slice a fs.length c, .slice b x y] 29) W → Calls Tryd.prog 20 #[.slice a fs.length c] W fun e w' => e = .returned (.tuple #[.int .i64 (lengthF fs).1, .bool (lengthF fs).2]) ∧ RI w (.cells #[.int .i64 code, .string reason, .int .i64 minor, .slice a fs.length c, .slice b x y] 29) w') := fun W i => (rlength_any fs a c W (hf.over i.below) hb hl).mono fun e w' z => ⟨z.1, i.next z.2⟩
  have hbd := lenL_bd (listF fs tCL)
  have hbd2 : 0 ≤ (lengthF fs).1 ∧ (lengthF fs).1 < 1000000000000000000 := hbd
  have e0 : ((toldF fs minor).1, (toldF fs minor).2.1, decide ((toldF fs minor).2.2 = 0)) = respP (toldP (thereF fs tTE) (thereF fs tCL) (chunkedF fs) (lengthF fs) minor) := rfl
  generalize hE : ((toldF fs minor).1, (toldF fs minor).2.1, decide ((toldF fs minor).2.2 = 0)) = E at e0
  obtain ⟨E1, E2, E3⟩ := E
  injection hE with g1 hE
  injection hE with g2 g3
  rw [g1, g2, g3]
  have HE : Hid (respP (toldP (thereF fs tTE) (thereF fs tCL) (chunkedF fs) (lengthF fs) minor) = (E1, E2, E3)) := e0.symm
  have SS : (w.alloc (.cells #[.int .i64 code, .string reason, .int .i64 minor, .slice a fs.length c, .slice b x y] 29)).cell? ⟨w.heap.size, 3, none⟩ = some (.slice a fs.length c) := tblk_cell I0.blk rfl
  clear hf hb hl hbd e0 g1 g2 g3 h p1 p3 p4
  generalize thereF fs tTE = te at *
  generalize thereF fs tCL = cl at *
  generalize chunkedF fs = ch at *
  generalize lengthF fs = ln at *
  obtain ⟨n, r⟩ := ln
  simp only at H4 hbd2
  obtain ⟨b1, b2⟩ := hbd2
  go_enter Tryd.func14, Tryd.ntmps14
  go_wp2_with fail
  go_region_held3 (fun W => W.cell? ⟨w.heap.size, 3, none⟩ = some (.slice a fs.length c)) (go_keep) (first | (go_at_call 18; refine (H1.out _ (by first | assumption | exact RI.drew I0 | exact RI.drew (by assumption))).mono ?_; rintro e w' ⟨rfl, hI, hS⟩) | (go_at_call 18; refine (H2.out _ (by first | assumption | exact RI.drew I0 | exact RI.drew (by assumption))).mono ?_; rintro e w' ⟨rfl, hI, hS⟩))
  go_wp2_with fail
  refine (H4.out _ (by first | assumption | exact RI.drew (by assumption))).mono ?_
  rintro e w4 ⟨rfl, I4⟩
  have c2 : w4.cell? ⟨w.heap.size, 2, none⟩ = some (.int .i64 minor) := tblk_cell I4.blk rfl
  have c3 : w4.cell? ⟨w.heap.size, 3, none⟩ = some (.slice a fs.length c) := tblk_cell I4.blk rfl
  clear H1 H2 H4 SS I0
  cases te
  · cases cl
    · have HK : Hid ((3, 0, true) = (E1, E2, E3)) := HE.out
      clear HE
      go_wp2
      go_ret3
      exact ⟨ret3_iib (congrArg Prod.fst HK.out) (congrArg (·.2.1) HK.out) (congrArg (·.2.2) HK.out), I4.below⟩
    · cases r
      · have HK : Hid ((0, 0, false) = (E1, E2, E3)) := HE.out
        clear HE
        go_wp2
        go_ret3
        exact ⟨ret3_iib (congrArg Prod.fst HK.out) (congrArg (·.2.1) HK.out) (congrArg (·.2.2) HK.out), I4.below⟩
      · by_cases hn : 4096 < n
        · have HK : Hid ((0, 0, false) = (E1, E2, E3)) := by
            have k := HE.out
            unfold toldP at k
            simp only [Bool.false_and, Bool.false_eq_true, if_false, Bool.true_eq_false, if_pos hn] at k
            exact k
          clear HE
          go_wp2
          go_ret3
          exact ⟨ret3_iib (congrArg Prod.fst HK.out) (congrArg (·.2.1) HK.out) (congrArg (·.2.2) HK.out), I4.below⟩
        · have HK : Hid ((1, n, true) = (E1, E2, E3)) := by
            have k := HE.out
            unfold toldP at k
            simp only [Bool.false_and, Bool.false_eq_true, if_false, Bool.true_eq_false, if_neg hn] at k
            exact k
          clear HE
          go_wp2
          go_ret3
          exact ⟨ret3_iib (congrArg Prod.fst HK.out) (congrArg (·.2.1) HK.out) (congrArg (·.2.2) HK.out), I4.below⟩
  · cases cl
    · by_cases hm : minor = 0
      · subst hm
        have HK : Hid ((0, 0, false) = (E1, E2, E3)) := HE.out
        clear HE
        go_wp2
        go_ret3
        exact ⟨ret3_iib (congrArg Prod.fst HK.out) (congrArg (·.2.1) HK.out) (congrArg (·.2.2) HK.out), I4.below⟩
      · have hm2 : (minor == 0) = false := by simpa using hm
        have hm3 : decide (minor = 0) = false := decide_eq_false hm
        have HE2 : Hid (respP (if ch = true then ((2 : Int), (0 : Int), (0 : Int)) else (0, 0, 501)) = (E1, E2, E3)) := by
          have k := HE.out
          unfold toldP at k
          rw [hm3] at k
          exact k
        clear hm hm3
        cases ch
        · have HK : Hid ((0, 0, false) = (E1, E2, E3)) := HE2.out
          clear HE HE2
          go_wp2_with fail
          refine (H3.out _ I4).mono ?_
          rintro e w5 ⟨rfl, I5⟩
          go_wp2
          go_ret3
          exact ⟨ret3_iib (congrArg Prod.fst HK.out) (congrArg (·.2.1) HK.out) (congrArg (·.2.2) HK.out), I5.below⟩
        · have HK : Hid ((2, 0, true) = (E1, E2, E3)) := HE2.out
          clear HE HE2
          go_wp2_with fail
          refine (H3.out _ I4).mono ?_
          rintro e w5 ⟨rfl, I5⟩
          go_wp2
          go_ret3
          exact ⟨ret3_iib (congrArg Prod.fst HK.out) (congrArg (·.2.1) HK.out) (congrArg (·.2.2) HK.out), I5.below⟩
    · have HK : Hid ((0, 0, false) = (E1, E2, E3)) := HE.out
      clear HE
      go_wp2
      go_ret3
      exact ⟨ret3_iib (congrArg Prod.fst HK.out) (congrArg (·.2.1) HK.out) (congrArg (·.2.2) HK.out), I4.below⟩

set_option maxHeartbeats 1000000 in
theorem rresp_bare (m reason : ByteArray) (code minor : Int) (a b : Option Addr) (n c x y : Nat) (w : World) (h : bareF m code = true) :
    Calls Tryd.prog 14 #[.string m, .agg #[.int .i64 code, .string reason, .int .i64 minor, .slice a n c, .slice b x y]] w fun e w' => e = .returned (.tuple #[.int .i64 0, .int .i64 0, .bool true]) ∧ Below w.heap.size w w' := by
  have C1 : Below w.heap.size w (w.alloc (.cells #[.int .i64 code, .string reason, .int .i64 minor, .slice a n c, .slice b x y] 29)) := (Below.refl _ _).alloc (Nat.le_refl _) _
  by_cases p1 : m = ⟨#[72, 69, 65, 68]⟩
  · subst p1
    clear h
    go_enter Tryd.func14, Tryd.ntmps14
    go_wp2
    go_ret3
    exact ⟨rfl, C1⟩
  · have q1 : (m.toList == [72, 69, 65, 68]) = false := by
      rw [ByteArray.toList_eq, beq_eq_false_iff_ne]
      intro e
      exact p1 (ByteArray.ext (Array.toList_inj.1 e))
    by_cases p2 : code < 200
    · clear h p1
      go_enter Tryd.func14, Tryd.ntmps14
      go_wp2
      go_ret3
      exact ⟨rfl, C1⟩
    · by_cases p3 : code = 204
      · subst p3
        clear h p1
        go_enter Tryd.func14, Tryd.ntmps14
        go_wp2
        go_ret3
        exact ⟨rfl, C1⟩
      · have p4 : code = 304 := by
          unfold bareF at h
          simp [p1, p2, p3] at h
          exact h
        subst p4
        clear h p1 p3
        go_enter Tryd.func14, Tryd.ntmps14
        go_wp2
        go_ret3
        exact ⟨rfl, C1⟩
theorem rresponse_any (m reason : ByteArray) (code minor : Int) (fs : Fs) (a b : Option Addr) (c x y : Nat) (w : World) (hf : Fds w.heap.size w (.slice a fs.length c) fs) (hb : FBd 1048576 fs) (hl : fs.length ≤ 1024) :
    Calls Tryd.prog 14 #[.string m, .agg #[.int .i64 code, .string reason, .int .i64 minor, .slice a fs.length c, .slice b x y]] w fun e w' => e = .returned (.tuple #[.int .i64 (respF m code minor fs).1, .int .i64 (respF m code minor fs).2.1, .bool (respF m code minor fs).2.2]) ∧ Below w.heap.size w w' := by
  unfold respF
  cases h : bareF m code
  · rw [if_neg (by decide)]
    exact rresp_full m reason code minor fs a b c x y w h hf hb hl
  · rw [if_pos rfl]
    exact rresp_bare m reason code minor a b fs.length c x y w h

set_option maxHeartbeats 1000000 in
theorem responses_walk (m reason : ByteArray) (code minor : Int) (fs : Fs) (a b : Option Addr) (n c x y : Nat) (w : World) (hf : Fds w.heap.size w (.slice a n c) fs) (hb : FBd 1048576 fs) (hM : MaxL w) :
    Calls Tryd.prog 4 #[.string m, .agg #[.int .i64 code, .string reason, .int .i64 minor, .slice a n c, .slice b x y]] w fun e w' => e = .returned (.bool true) ∧ Below w.heap.size w w' := by
  have hlm := hf.len
  obtain ⟨hle, h2, h3⟩ := hlm
  unfold maxLen at h3
  subst hle
  have I0 : RI w (.cells #[.int .i64 code, .string reason, .int .i64 minor, .slice a fs.length c, .slice b x y] 29) (w.alloc (.cells #[.int .i64 code, .string reason, .int .i64 minor, .slice a fs.length c, .slice b x y] 29)) := ⟨(Below.refl _ _).alloc (Nat.le_refl _) _, tblk_new _ _⟩
  have HA : Hid (Calls Tryd.prog 8 #[] (w.alloc (.cells #[.int .i64 code, .string reason, .int .i64 minor, .slice a fs.length c, .slice b x y] 29)) fun e w' => e = .returned (.bool true) ∧ RI w (.cells #[.int .i64 code, .string reason, .int .i64 minor, .slice a fs.length c, .slice b x y] 29) w') := (alive7_any _ (hM.below I0.below)).mono fun e w' z => ⟨z.1, I0.next z.2⟩
  by_cases hbig : (200 : Int) < (fs.length : Int)
  · clear hf hb
    go_enter Tryd.func4, Tryd.ntmps4
    go_wp2_with fail
    refine HA.out.mono ?_
    rintro e w1 ⟨rfl, I1⟩
    have c3 : w1.cell? ⟨w.heap.size, 3, none⟩ = some (.slice a fs.length c) := tblk_cell I1.blk rfl
    go_wp2
    go_ret
    exact ⟨rfl, I1.below⟩
  · have hl : fs.length ≤ 1024 := by omega
    have H1 : Hid (∀ W, RI w (.cells #[.int .i64 code, .string reason, .int .i64 minor, .slice a fs.length c, .slice b x y] 29) W → Calls Tryd.prog 13 #[.string m, .agg #[.int .i64 code, .string reason, .int .i64 minor, .slice a fs.length c, .slice b x y]] W fun e w' => e = .returned (.tuple #[.int .i64 (respF m code minor fs).1, .int .i64 (respF m code minor fs).2.1, .bool (respF m code minor fs).2.2]) ∧ RI w (.cells #[.int .i64 code, .string reason, .int .i64 minor, .slice a fs.length c, .slice b x y] 29) w') := fun W i => (response_any m reason code minor fs a b c x y W (hf.over i.below) hb hl (hM.below i.below)).mono fun e w' z => ⟨z.1, i.next z.2⟩
    have H2 : Hid (∀ W, RI w (.cells #[.int .i64 code, .string reason, .int .i64 minor, .slice a fs.length c, .slice b x y] 29) W → Calls Tryd.prog 14 #[.string m, .agg #[.int .i64 code, .string reason, .int .i64 minor, .slice a fs.length c, .slice b x y]] W fun e w' => e = .returned (.tuple #[.int .i64 (respF m code minor fs).1, .int .i64 (respF m code minor fs).2.1, .bool (respF m code minor fs).2.2]) ∧ RI w (.cells #[.int .i64 code, .string reason, .int .i64 minor, .slice a fs.length c, .slice b x y] 29) w') := fun W i => (rresponse_any m reason code minor fs a b c x y W (hf.over i.below) hb hl).mono fun e w' z => ⟨z.1, i.next z.2⟩
    clear hf hb
    generalize respF m code minor fs = E at *
    obtain ⟨E1, E2, E3⟩ := E
    go_enter Tryd.func4, Tryd.ntmps4
    go_wp2_with fail
    refine HA.out.mono ?_
    rintro e w1 ⟨rfl, I1⟩
    have c0 : w1.cell? ⟨w.heap.size, 0, none⟩ = some (.int .i64 code) := tblk_cell I1.blk rfl
    have c1 : w1.cell? ⟨w.heap.size, 1, none⟩ = some (.string reason) := tblk_cell I1.blk rfl
    have c2 : w1.cell? ⟨w.heap.size, 2, none⟩ = some (.int .i64 minor) := tblk_cell I1.blk rfl
    have c3 : w1.cell? ⟨w.heap.size, 3, none⟩ = some (.slice a fs.length c) := tblk_cell I1.blk rfl
    have c4 : w1.cell? ⟨w.heap.size, 4, none⟩ = some (.slice b x y) := tblk_cell I1.blk rfl
    go_wp2_with fail
    refine (H1.out _ I1).mono ?_
    rintro e w2 ⟨rfl, I2⟩
    clear c0 c1 c2 c3 c4
    have c0 : w2.cell? ⟨w.heap.size, 0, none⟩ = some (.int .i64 code) := tblk_cell I2.blk rfl
    have c1 : w2.cell? ⟨w.heap.size, 1, none⟩ = some (.string reason) := tblk_cell I2.blk rfl
    have c2 : w2.cell? ⟨w.heap.size, 2, none⟩ = some (.int .i64 minor) := tblk_cell I2.blk rfl
    have c3 : w2.cell? ⟨w.heap.size, 3, none⟩ = some (.slice a fs.length c) := tblk_cell I2.blk rfl
    have c4 : w2.cell? ⟨w.heap.size, 4, none⟩ = some (.slice b x y) := tblk_cell I2.blk rfl
    go_wp2_with fail
    refine (H2.out _ I2).mono ?_
    rintro e w3 ⟨rfl, I3⟩
    go_wp2
    go_ret
    exact ⟨ret_bool (by simp), I3.below⟩
end Go.Proofs.YtflgjhknobnnaaaDoor
