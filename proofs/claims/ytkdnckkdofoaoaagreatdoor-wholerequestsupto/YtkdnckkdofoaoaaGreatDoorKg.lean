/- Texts that the proof leans on, one behind the other: FrB FrC HtA HtB HtC HtD HtE HtF HtG -/
import Derived.Test.YtkdnckkdofoaoaaGreatDoorKd
import Derived.Test.YtkdnckkdofoaoaaGreatDoorKb
import Derived.OwnWalk
import Derived.Test.YtkdnckkdofoaoaaGreatDoorKe
import Derived.Test.YtkdnckkdofoaoaaGreatDoorKf
/- Package frame: what each call answers of fields. -/
namespace Go.Proofs.YtkdnckkdofoaoaaGreatDoor
open Go.ChangeShapes Go.WideShapes Go.ChangeAt Go.RowKit
set_option linter.unusedVariables false

theorem Fds.over {w W : World} {v : Value} {fs : Fs} (h : Fds w.heap.size w v fs) (b : Below w.heap.size w W) : Fds W.heap.size W v fs := (h.keep b).mono b.size
theorem int_pos (n : Nat) : decide ((0 : Int) < (n : Int)) = decide (0 < n) := by
  by_cases h : 0 < n
  · rw [decide_eq_true h, decide_eq_true (by omega)]
  · rw [decide_eq_false h, decide_eq_false (by omega)]

set_option maxHeartbeats 1000000 in
theorem there_any (fs : Fs) (a : Option Addr) (c : Nat) (name : ByteArray) (w : World) (hf : Fds w.heap.size w (.slice a fs.length c) fs) (hb : FBd 1048576 fs) (hn : name.size ≤ 1048576) (hl : fs.length ≤ 1024) :
    Calls Tryz.prog 106 #[.slice a fs.length c, .string name] w fun e w' => e = .returned (.bool (thereF fs name)) ∧ Below w.heap.size w w' := by
  have HG : Hid (Calls Tryz.prog 40 #[.slice a fs.length c, .string name] w fun e w' => ∃ ao cv, e = .returned (.slice ao (getF fs name).length cv) ∧ OwnT w.heap.size w' (.slice ao (getF fs name).length cv) (getF fs name) ∧ Below w.heap.size w w') := get_any fs a c name w hf (hb.mono (by decide)) (by omega) (by omega)
  unfold thereF
  clear hf hb hn hl
  generalize getF fs name = vs at *
  go_enter Tryz.func106, Tryz.ntmps106
  go_wp2_with fail
  refine HG.out.mono ?_
  rintro e w1 ⟨ao1, cv1, rfl, own1, B1⟩
  clear own1 HG
  go_wp2
  go_ret
  exact ⟨ret_bool (by first | exact int_pos _ | simp), B1⟩

set_option maxHeartbeats 1000000 in
theorem chunked_any (fs : Fs) (a : Option Addr) (c : Nat) (w : World) (hf : Fds w.heap.size w (.slice a fs.length c) fs) (hb : FBd 1048576 fs) (hl : fs.length ≤ 1024) (hM : MaxL w) :
    Calls Tryz.prog 107 #[.slice a fs.length c] w fun e w' => e = .returned (.bool (chunkedF fs)) ∧ Below w.heap.size w w' := by
  have HL : Hid (Calls Tryz.prog 76 #[.slice a fs.length c, .string ⟨#[84, 114, 97, 110, 115, 102, 101, 114, 45, 69, 110, 99, 111, 100, 105, 110, 103]⟩] w fun e w' => ∃ ao cv, e = .returned (.slice ao (listF fs tTE).length cv) ∧ OwnT w.heap.size w' (.slice ao (listF fs tTE).length cv) (listF fs tTE) ∧ Below w.heap.size w w') := list_any fs a c tTE w hf hb (by decide) hl hM
  have HBD : Hid (TBd 1048576 (listF fs tTE)) := listF_bd hb
  unfold chunkedF
  clear hf hb hl hM
  generalize listF fs tTE = xs at *
  generalize hck : chunkL xs = ck
  have HCK : Hid (chunkL xs = ck) := hck
  clear hck
  go_enter Tryz.func107, Tryz.ntmps107
  go_wp2_with fail
  refine HL.out.mono ?_
  rintro e w1 ⟨ao1, cv1, rfl, own1, B1⟩
  have T1 := own1.txs
  clear own1 HL
  match xs, T1, HBD, HCK with
  | [], _, _, HCK =>
    go_wp2
    go_ret
    exact ⟨ret_bool HCK.out, B1⟩
  | [p], T1, HBD, HCK =>
    obtain ⟨a', c', e, hnil, q1, q2, q3⟩ := T1
    obtain ⟨rfl, _, rfl⟩ := slice_inj e
    obtain ⟨g, off, rfl, hg, hc⟩ := q3 Nat.one_pos
    have hc0 : w1.cell? ⟨g, off, none⟩ = some (.string p) := hc 0 Nat.one_pos
    have HS : Hid (∀ W, Calls Tryz.prog 79 #[.string p, .string ⟨#[99, 104, 117, 110, 107, 101, 100]⟩] W fun e w' => e = .returned (.bool (smT p tCh)) ∧ Below W.heap.size W w') := fun W => same_sm p tCh W (by have := HBD.out p (List.mem_cons_self ..); unfold maxLen; omega) (by decide)
    have HK2 : Hid (smT p tCh = ck) := HCK.out
    clear e hnil q1 q2 q3 hc HBD HCK
    generalize smT p tCh = b at *
    go_wp2_with fail
    refine (HS.out _).mono ?_
    rintro e w2 ⟨rfl, B2⟩
    go_wp2
    go_ret
    exact ⟨ret_bool HK2.out, B1.trans (B2.mono B1.size)⟩
  | p :: q :: r, _, _, HCK =>
    have HK2 : Hid (false = ck) := HCK.out
    have h1 : ¬ (((p :: q :: r).length : Int) = 1) := by simp only [List.length_cons]; omega
    have h2 : (((p :: q :: r).length : Int) == 1) = false := by simpa using h1
    clear h1 HCK
    generalize (p :: q :: r).length = n at *
    go_wp2
    go_ret
    exact ⟨ret_bool HK2.out, B1⟩

theorem sameN_snoc {f : Int} {ps : List ByteArray} {k : Nat} (h : k < ps.length) : sameN f (ps.take (k + 1)) = (sameN f (ps.take k) && (numB 10 18 ps[k] && decide (numI 10 18 ps[k] = f))) := by
  rw [List.take_succ_eq_append_getElem h]
  unfold sameN
  rw [List.all_append]
  simp
theorem eq_dec (x y : Int) : (x == y) = decide (x = y) := by
  by_cases h : x = y
  · rw [decide_eq_true h, h]; simp
  · rw [decide_eq_false h]; simpa using h

set_option maxRecDepth 100000 in
set_option maxHeartbeats 1000000 in
theorem length_any (fs : Fs) (a : Option Addr) (c : Nat) (w : World) (hf : Fds w.heap.size w (.slice a fs.length c) fs) (hb : FBd 1048576 fs) (hl : fs.length ≤ 1024) (hM : MaxL w) :
    Calls Tryz.prog 108 #[.slice a fs.length c] w fun e w' => e = .returned (.tuple #[.int .i64 (lengthF fs).1, .bool (lengthF fs).2]) ∧ Below w.heap.size w w' := by
  have HL : Hid (Calls Tryz.prog 76 #[.slice a fs.length c, .string ⟨#[67, 111, 110, 116, 101, 110, 116, 45, 76, 101, 110, 103, 116, 104]⟩] w fun e w' => ∃ ao cv, e = .returned (.slice ao (listF fs tCL).length cv) ∧ OwnT w.heap.size w' (.slice ao (listF fs tCL).length cv) (listF fs tCL) ∧ Below w.heap.size w w') := list_any fs a c tCL w hf hb (by decide) hl hM
  have HBD : Hid (TBd 1048576 (listF fs tCL)) := listF_bd hb
  have HLN : Hid ((listF fs tCL).length ≤ 1024 * 1048578) := listF_len hb hl
  unfold lengthF
  clear hf hb hl hM
  generalize listF fs tCL = xs at *
  generalize hck : lenL xs = ck
  have HCK : Hid (lenL xs = ck) := hck
  clear hck
  obtain ⟨n, r⟩ := ck
  go_enter Tryz.func108, Tryz.ntmps108
  go_wp2_with fail
  refine HL.out.mono ?_
  rintro e w1 ⟨ao1, cv1, rfl, own1, B1⟩
  have T1 := own1.txs
  clear own1 HL
  match xs, T1, HBD, HCK, HLN with
  | [], _, _, HCK, _ =>
    have HK2 : Hid ((0, false) = (n, r)) := HCK.out
    clear HCK
    go_wp2
    go_ret2
    exact ⟨ret2_ib (congrArg Prod.fst HK2.out) (congrArg Prod.snd HK2.out), B1⟩
  | p :: ps, T1, HBD, HCK, HLN =>
    obtain ⟨a', c', e, hnil, q1, q2, q3⟩ := T1
    obtain ⟨rfl, _, rfl⟩ := slice_inj e
    obtain ⟨g, off, rfl, hg, hc⟩ := q3 (Nat.zero_lt_succ _)
    have hc0 : w1.cell? ⟨g, off, none⟩ = some (.string p) := hc 0 (Nat.zero_lt_succ _)
    have HC : Hid (∀ (j : Nat) (hj : j < ps.length), w1.cell? ⟨g, off + 1 + j, none⟩ = some (.string ps[j])) := fun j hj => by
      have k := hc (j + 1) (by simpa using hj)
      rw [show off + (j + 1) = off + 1 + j by omega] at k
      exact k
    have HS : Hid (∀ x ∈ p :: ps, ∀ W, Calls Tryz.prog 143 #[.string x] W fun e w' => e = .returned (.tuple #[.int .i64 (numI 10 18 x), .bool (numB 10 18 x)]) ∧ w' = W) := fun x hx W => decimal_any x W (by have := HBD.out x hx; unfold maxLen; omega)
    have HK2 : Hid ((if (numB 10 18 p && sameN (numI 10 18 p) ps) = true then (numI 10 18 p, true) else (0, false)) = (n, r)) := HCK.out
    have hln : ps.length ≤ 1073743872 := by have := HLN.out; simp only [List.length_cons] at this; omega
    have hcv : ps.length + 1 ≤ cv1 := by simpa using q1
    unfold maxLen at q2
    clear e hnil q1 q3 hc HBD HCK HLN
    have hlc : (p :: ps).length = ps.length + 1 := rfl
    rw [hlc]
    clear hlc
    go_wp2_with fail
    refine (HS.out p (List.mem_cons_self ..) _).mono ?_
    rintro e w2 ⟨rfl, rfl⟩
    generalize numI 10 18 p = f at *
    generalize numB 10 18 p = b at *
    rcases Nat.eq_zero_or_pos ps.length with h0 | hp
    · have he : ps = [] := List.eq_nil_of_length_eq_zero h0
      subst he
      clear h0 HC HS hc0
      cases b
      · have HK3 : Hid ((0, false) = (n, r)) := HK2.out
        clear HK2
        go_wp2
        all_goals
          refine wp_loop_rounds 1 ?_
          rw [rounds_succ]
          go_wp2
          go_ret2
          exact ⟨ret2_ib (congrArg Prod.fst HK3.out) (congrArg Prod.snd HK3.out), B1⟩
      · have HK3 : Hid ((f, true) = (n, r)) := HK2.out
        clear HK2
        go_wp2
        all_goals
          refine wp_loop_rounds 1 ?_
          rw [rounds_succ]
          go_wp2
          go_ret2
          exact ⟨ret2_ib (congrArg Prod.fst HK3.out) (congrArg Prod.snd HK3.out), B1⟩
    · have hcap : ¬ cv1 = 1 := by omega
      go_wp2_with fail
      go_loop [6, 26] (fun vr vi => ∃ k : Nat, k ≤ ps.length ∧ vi = .int .i64 k ∧ vr = .bool (b && sameN f (ps.take k))) (fun _ vi => ps.length - (intOf vi).toNat)
      case atStart => exact ⟨0, Nat.zero_le _, rfl, by simp [sameN]⟩
      case round =>
        obtain ⟨k, hk, rfl, rfl⟩ := hrel
        by_cases hlt : k < ps.length
        · have hc1 := HC.out k hlt
          have hsn : Hid ((b && sameN f (ps.take (k + 1))) = ((b && sameN f (ps.take k)) && (numB 10 18 ps[k] && decide (numI 10 18 ps[k] = f)))) := by rw [Hid, sameN_snoc hlt, Bool.and_assoc]
          have HX : Hid (∀ W, Calls Tryz.prog 143 #[.string ps[k]] W fun e w' => e = .returned (.tuple #[.int .i64 (numI 10 18 ps[k]), .bool (numB 10 18 ps[k])]) ∧ w' = W) := HS.out ps[k] (List.mem_cons_of_mem _ (List.getElem_mem hlt))
          generalize (b && sameN f (ps.take k)) = rr at *
          generalize numI 10 18 ps[k] = nx at *
          generalize numB 10 18 ps[k] = nb at *
          generalize ps[k] = x at *
          go_wp2_with fail
          refine (HX.out _).mono ?_
          rintro e w3 ⟨rfl, rfl⟩
          cases rr
          · have hs2 : Hid ((b && sameN f (ps.take (k + 1))) = false) := hsn.out
            clear hsn HX
            go_wp2
            go_round
            case rel => exact ⟨k + 1, by omega, by go_num, by rw [hs2.out]⟩
            case measure => simp [intOf]; omega
          · cases nb
            · have hs2 : Hid ((b && sameN f (ps.take (k + 1))) = false) := hsn.out
              clear hsn HX
              go_wp2
              go_round
              case rel => exact ⟨k + 1, by omega, by go_num, by rw [hs2.out]⟩
              case measure => simp [intOf]; omega
            · have hs2 : Hid ((b && sameN f (ps.take (k + 1))) = decide (nx = f)) := hsn.out
              clear hsn HX
              go_wp2
              go_round
              case rel => exact ⟨k + 1, by omega, by go_num, by rw [hs2.out, eq_dec]⟩
              case measure => simp [intOf]; omega
        · have hk' : k = ps.length := by omega
          subst hk'
          rw [List.take_length] at *
          clear hlt hk
          generalize (b && sameN f ps) = rr at *
          cases rr
          · have HK3 : Hid ((0, false) = (n, r)) := HK2.out
            clear HK2
            go_wp2
            go_ret2
            exact ⟨ret2_ib (congrArg Prod.fst HK3.out) (congrArg Prod.snd HK3.out), B1⟩
          · have HK3 : Hid ((f, true) = (n, r)) := HK2.out
            clear HK2
            go_wp2
            go_ret2
            exact ⟨ret2_ib (congrArg Prod.fst HK3.out) (congrArg Prod.snd HK3.out), B1⟩
end Go.Proofs.YtkdnckkdofoaoaaGreatDoor

/- Package frame: Request, Response and Closes. -/
namespace Go.Proofs.YtkdnckkdofoaoaaGreatDoor
open Go.ChangeShapes Go.WideShapes Go.ChangeAt Go.RowKit
set_option linter.unusedVariables false

theorem ret3_iii {x y z a b c : Int} (h1 : x = a) (h2 : y = b) (h3 : z = c) : Ending.returned (.tuple #[.int .i64 x, .int .i64 y, .int .i64 z]) = .returned (.tuple #[.int .i64 a, .int .i64 b, .int .i64 c]) := by rw [h1, h2, h3]
/-- told, of what the inner calls answer. -/
def toldP (te cl ch : Bool) (ln : Int × Bool) (minor : Int) : Int × Int × Int :=
  if (te && (cl || decide (minor = 0))) = true then (0, 0, 400)
  else if te = true then (if ch = true then (2, 0, 0) else (0, 0, 501))
  else if cl = false then (3, 0, 0)
  else if ln.2 = false then (0, 0, 400)
  else if 4096 < ln.1 then (0, 0, 413) else (1, ln.1, 0)
theorem toldF_eq (fs : Fs) (minor : Int) : toldF fs minor = toldP (thereF fs tTE) (thereF fs tCL) (chunkedF fs) (lengthF fs) minor := rfl

set_option maxHeartbeats 1000000 in
theorem told_any (fs : Fs) (a : Option Addr) (c : Nat) (minor : Int) (w : World) (hf : Fds w.heap.size w (.slice a fs.length c) fs) (hb : FBd 1048576 fs) (hl : fs.length ≤ 1024) (hM : MaxL w) :
    Calls Tryz.prog 61 #[.slice a fs.length c, .int .i64 minor] w fun e w' => e = .returned (.tuple #[.int .i64 (toldF fs minor).1, .int .i64 (toldF fs minor).2.1, .int .i64 (toldF fs minor).2.2]) ∧ Below w.heap.size w w' := by
  have H1 : Hid (Calls Tryz.prog 106 #[.slice a fs.length c, .string ⟨#[67, 111, 110, 116, 101, 110, 116, 45, 76, 101, 110, 103, 116, 104]⟩] w fun e w' => e = .returned (.bool (thereF fs tCL)) ∧ Below w.heap.size w w') := there_any fs a c tCL w hf hb (by decide) hl
  have H2 : Hid (∀ W, Below w.heap.size w W → Calls Tryz.prog 106 #[.slice a fs.length c, .string ⟨#[84, 114, 97, 110, 115, 102, 101, 114, 45, 69, 110, 99, 111, 100, 105, 110, 103]⟩] W fun e w' => e = .returned (.bool (thereF fs tTE)) ∧ Below W.heap.size W w') := fun W b => there_any fs a c tTE W (hf.over b) hb (by decide) hl
  have H3 : Hid (∀ W, Below w.heap.size w W → Calls Tryz.prog 107 #[.slice a fs.length c] W fun e w' => e = .returned (.bool (chunkedF fs)) ∧ Below W.heap.size W w') := fun W b => chunked_any fs a c W (hf.over b) hb hl (hM.below b)
  have H4 : Hid (∀ W, Below w.heap.size w W → Calls Tryz.prog 108 #[.slice a fs.length c] W fun e w' => e = .returned (.tuple #[.int .i64 (lengthF fs).1, .bool (lengthF fs).2]) ∧ Below W.heap.size W w') := fun W b => length_any fs a c W (hf.over b) hb hl (hM.below b)
  have hbd := lenL_bd (listF fs tCL)
  rw [toldF_eq]
  have hbd2 : 0 ≤ (lengthF fs).1 ∧ (lengthF fs).1 < 1000000000000000000 := hbd
  clear hf hb hl hM hbd
  generalize thereF fs tTE = te at *
  generalize thereF fs tCL = cl at *
  generalize chunkedF fs = ch at *
  generalize lengthF fs = ln at *
  obtain ⟨n, r⟩ := ln
  simp only at H4 hbd2
  obtain ⟨b1, b2⟩ := hbd2
  generalize hE : toldP te cl ch (n, r) minor = E
  have HE : Hid (toldP te cl ch (n, r) minor = E) := hE
  clear hE
  obtain ⟨E1, E2, E3⟩ := E
  cases te
  · cases cl
    · have HK : Hid ((3, 0, 0) = (E1, E2, E3)) := HE.out
      clear HE
      go_enter Tryz.func61, Tryz.ntmps61
      go_wp2_with fail
      refine H1.out.mono ?_
      rintro e w1 ⟨rfl, B1⟩
      go_wp2_with fail
      refine (H2.out _ B1).mono ?_
      rintro e w2 ⟨rfl, B2⟩
      go_wp2
      go_ret3
      exact ⟨ret3_iii (congrArg Prod.fst HK.out) (congrArg (·.2.1) HK.out) (congrArg (·.2.2) HK.out), B1.trans (B2.mono B1.size)⟩
    · cases r
      · have HK : Hid ((0, 0, 400) = (E1, E2, E3)) := HE.out
        clear HE
        go_enter Tryz.func61, Tryz.ntmps61
        go_wp2_with fail
        refine H1.out.mono ?_
        rintro e w1 ⟨rfl, B1⟩
        go_wp2_with fail
        refine (H2.out _ B1).mono ?_
        rintro e w2 ⟨rfl, B2⟩
        have D2 := B1.trans (B2.mono B1.size)
        go_wp2_with fail
        refine (H4.out _ D2).mono ?_
        rintro e w3 ⟨rfl, B3⟩
        go_wp2
        go_ret3
        exact ⟨ret3_iii (congrArg Prod.fst HK.out) (congrArg (·.2.1) HK.out) (congrArg (·.2.2) HK.out), D2.trans (B3.mono D2.size)⟩
      · by_cases hn : 4096 < n
        · have HK : Hid ((0, 0, 413) = (E1, E2, E3)) := by
            have k := HE.out
            unfold toldP at k
            simp only [Bool.false_and, Bool.false_eq_true, if_false, Bool.true_eq_false, if_pos hn] at k
            exact k
          clear HE
          go_enter Tryz.func61, Tryz.ntmps61
          go_wp2_with fail
          refine H1.out.mono ?_
          rintro e w1 ⟨rfl, B1⟩
          go_wp2_with fail
          refine (H2.out _ B1).mono ?_
          rintro e w2 ⟨rfl, B2⟩
          have D2 := B1.trans (B2.mono B1.size)
          go_wp2_with fail
          refine (H4.out _ D2).mono ?_
          rintro e w3 ⟨rfl, B3⟩
          go_wp2
          go_ret3
          exact ⟨ret3_iii (congrArg Prod.fst HK.out) (congrArg (·.2.1) HK.out) (congrArg (·.2.2) HK.out), D2.trans (B3.mono D2.size)⟩
        · have HK : Hid ((1, n, 0) = (E1, E2, E3)) := by
            have k := HE.out
            unfold toldP at k
            simp only [Bool.false_and, Bool.false_eq_true, if_false, Bool.true_eq_false, if_neg hn] at k
            exact k
          clear HE
          go_enter Tryz.func61, Tryz.ntmps61
          go_wp2_with fail
          refine H1.out.mono ?_
          rintro e w1 ⟨rfl, B1⟩
          go_wp2_with fail
          refine (H2.out _ B1).mono ?_
          rintro e w2 ⟨rfl, B2⟩
          have D2 := B1.trans (B2.mono B1.size)
          go_wp2_with fail
          refine (H4.out _ D2).mono ?_
          rintro e w3 ⟨rfl, B3⟩
          go_wp2
          go_ret3
          exact ⟨ret3_iii (congrArg Prod.fst HK.out) (congrArg (·.2.1) HK.out) (congrArg (·.2.2) HK.out), D2.trans (B3.mono D2.size)⟩
  · cases cl
    · by_cases hm : minor = 0
      · subst hm
        have HK : Hid ((0, 0, 400) = (E1, E2, E3)) := HE.out
        clear HE
        go_enter Tryz.func61, Tryz.ntmps61
        go_wp2_with fail
        refine H1.out.mono ?_
        rintro e w1 ⟨rfl, B1⟩
        go_wp2_with fail
        refine (H2.out _ B1).mono ?_
        rintro e w2 ⟨rfl, B2⟩
        go_wp2
        go_ret3
        exact ⟨ret3_iii (congrArg Prod.fst HK.out) (congrArg (·.2.1) HK.out) (congrArg (·.2.2) HK.out), B1.trans (B2.mono B1.size)⟩
      · have hm2 : (minor == 0) = false := by simpa using hm
        have hm3 : decide (minor = 0) = false := decide_eq_false hm
        have HE2 : Hid ((if ch = true then ((2 : Int), (0 : Int), (0 : Int)) else (0, 0, 501)) = (E1, E2, E3)) := by
          have k := HE.out
          unfold toldP at k
          rw [hm3] at k
          exact k
        clear HE hm hm3
        cases ch
        · have HK : Hid ((0, 0, 501) = (E1, E2, E3)) := HE2.out
          clear HE2
          go_enter Tryz.func61, Tryz.ntmps61
          go_wp2_with fail
          refine H1.out.mono ?_
          rintro e w1 ⟨rfl, B1⟩
          go_wp2_with fail
          refine (H2.out _ B1).mono ?_
          rintro e w2 ⟨rfl, B2⟩
          have D2 := B1.trans (B2.mono B1.size)
          go_wp2_with fail
          refine (H3.out _ D2).mono ?_
          rintro e w3 ⟨rfl, B3⟩
          go_wp2
          go_ret3
          exact ⟨ret3_iii (congrArg Prod.fst HK.out) (congrArg (·.2.1) HK.out) (congrArg (·.2.2) HK.out), D2.trans (B3.mono D2.size)⟩
        · have HK : Hid ((2, 0, 0) = (E1, E2, E3)) := HE2.out
          clear HE2
          go_enter Tryz.func61, Tryz.ntmps61
          go_wp2_with fail
          refine H1.out.mono ?_
          rintro e w1 ⟨rfl, B1⟩
          go_wp2_with fail
          refine (H2.out _ B1).mono ?_
          rintro e w2 ⟨rfl, B2⟩
          have D2 := B1.trans (B2.mono B1.size)
          go_wp2_with fail
          refine (H3.out _ D2).mono ?_
          rintro e w3 ⟨rfl, B3⟩
          go_wp2
          go_ret3
          exact ⟨ret3_iii (congrArg Prod.fst HK.out) (congrArg (·.2.1) HK.out) (congrArg (·.2.2) HK.out), D2.trans (B3.mono D2.size)⟩
    · have HK : Hid ((0, 0, 400) = (E1, E2, E3)) := HE.out
      clear HE
      go_enter Tryz.func61, Tryz.ntmps61
      go_wp2_with fail
      refine H1.out.mono ?_
      rintro e w1 ⟨rfl, B1⟩
      go_wp2_with fail
      refine (H2.out _ B1).mono ?_
      rintro e w2 ⟨rfl, B2⟩
      go_wp2
      go_ret3
      exact ⟨ret3_iii (congrArg Prod.fst HK.out) (congrArg (·.2.1) HK.out) (congrArg (·.2.2) HK.out), B1.trans (B2.mono B1.size)⟩

theorem ret3_ibi {x y : Int} {p q : Bool} {a b : Int} (h1 : x = y) (h2 : p = q) (h3 : a = b) : Ending.returned (.tuple #[.int .i64 x, .bool p, .int .i64 a]) = .returned (.tuple #[.int .i64 y, .bool q, .int .i64 b]) := by rw [h1, h2, h3]
theorem ret3_iib {x y : Int} {p q : Bool} {a b : Int} (h1 : x = y) (h3 : a = b) (h2 : p = q) : Ending.returned (.tuple #[.int .i64 x, .int .i64 a, .bool p]) = .returned (.tuple #[.int .i64 y, .int .i64 b, .bool q]) := by rw [h1, h2, h3]

set_option maxHeartbeats 1000000 in
theorem request_any (fs : Fs) (a : Option Addr) (c : Nat) (minor : Int) (w : World) (hf : Fds w.heap.size w (.slice a fs.length c) fs) (hb : FBd 1048576 fs) (hl : fs.length ≤ 1024) (hM : MaxL w) :
    Calls Tryz.prog 29 #[.slice a fs.length c, .int .i64 minor] w fun e w' => e = .returned (.tuple #[.int .i64 (reqF fs minor).1, .bool (reqF fs minor).2.1, .int .i64 (reqF fs minor).2.2]) ∧ Below w.heap.size w w' := by
  have H : Hid (Calls Tryz.prog 61 #[.slice a fs.length c, .int .i64 minor] w fun e w' => e = .returned (.tuple #[.int .i64 (toldF fs minor).1, .int .i64 (toldF fs minor).2.1, .int .i64 (toldF fs minor).2.2]) ∧ Below w.heap.size w w') := told_any fs a c minor w hf hb hl hM
  unfold reqF
  clear hf hb hl hM
  generalize toldF fs minor = E at *
  obtain ⟨E1, E2, E3⟩ := E
  go_enter Tryz.func29, Tryz.ntmps29
  go_wp2_with fail
  refine H.out.mono ?_
  rintro e w1 ⟨rfl, B1⟩
  go_wp2
  go_ret3
  exact ⟨ret3_ibi rfl (eq_dec _ _) rfl, B1⟩

set_option maxHeartbeats 1000000 in
theorem bare_any (m : ByteArray) (code : Int) (w : World) : Calls Tryz.prog 129 #[.string m, .int .i64 code] w fun e w' => e = .returned (.bool (bareF m code)) ∧ w' = w := by
  have HQ : Hid ((m.toList == [72, 69, 65, 68]) = decide (m = ⟨#[72, 69, 65, 68]⟩)) := by
    rw [Hid, ByteArray.toList_eq]
    by_cases h : m = ⟨#[72, 69, 65, 68]⟩
    · rw [decide_eq_true h, h]; rfl
    · rw [decide_eq_false h]
      rw [beq_eq_false_iff_ne]
      intro e
      exact h (ByteArray.ext (Array.toList_inj.1 e))
  unfold bareF
  go_enter Tryz.func129, Tryz.ntmps129
  go_wp2
  all_goals
    go_ret
    refine ⟨ret_bool ?_, rfl⟩
    first
      | rfl
      | (rw [← HQ.out]; simp_all [eq_dec])

set_option maxHeartbeats 1000000 in
theorem resp_bare (m reason : ByteArray) (code minor : Int) (a b : Option Addr) (n c x y : Nat) (w : World) (h : bareF m code = true) :
    Calls Tryz.prog 87 #[.string m, .agg #[.int .i64 code, .string reason, .int .i64 minor, .slice a n c, .slice b x y]] w fun e w' => e = .returned (.tuple #[.int .i64 0, .int .i64 0, .bool true]) ∧ Below w.heap.size w w' := by
  have H : Hid (∀ W, Calls Tryz.prog 129 #[.string m, .int .i64 code] W fun e w' => e = .returned (.bool true) ∧ w' = W) := fun W => by have k := bare_any m code W; rw [h] at k; exact k
  clear h
  go_enter Tryz.func87, Tryz.ntmps87
  go_wp2_with fail
  refine (H.out _).mono ?_
  rintro e w1 ⟨rfl, rfl⟩
  go_wp2
  go_ret3
  exact ⟨rfl, (Below.refl _ _).alloc (Nat.le_refl _) _⟩

set_option maxHeartbeats 1000000 in
theorem resp_full (m reason : ByteArray) (code minor : Int) (fs : Fs) (a b : Option Addr) (c x y : Nat) (w : World) (h : bareF m code = false) (hf : Fds w.heap.size w (.slice a fs.length c) fs) (hb : FBd 1048576 fs) (hl : fs.length ≤ 1024) (hM : MaxL w) :
    Calls Tryz.prog 87 #[.string m, .agg #[.int .i64 code, .string reason, .int .i64 minor, .slice a fs.length c, .slice b x y]] w fun e w' => e = .returned (.tuple #[.int .i64 (toldF fs minor).1, .int .i64 (toldF fs minor).2.1, .bool (decide ((toldF fs minor).2.2 = 0))]) ∧ Below w.heap.size w w' := by
  have H : Hid (∀ W, Calls Tryz.prog 129 #[.string m, .int .i64 code] W fun e w' => e = .returned (.bool false) ∧ w' = W) := fun W => by have k := bare_any m code W; rw [h] at k; exact k
  have C1 : Below w.heap.size w (w.alloc (.cells #[.int .i64 code, .string reason, .int .i64 minor, .slice a fs.length c, .slice b x y] 33)) := (Below.refl _ _).alloc (Nat.le_refl _) _
  have HT : Hid (∀ W, Below w.heap.size w W → Calls Tryz.prog 61 #[.slice a fs.length c, .int .i64 minor] W fun e w' => e = .returned (.tuple #[.int .i64 (toldF fs minor).1, .int .i64 (toldF fs minor).2.1, .int .i64 (toldF fs minor).2.2]) ∧ Below W.heap.size W w') := fun W b => told_any fs a c minor W (hf.over b) hb hl (hM.below b)
  clear h hf hb hl hM
  generalize toldF fs minor = E at *
  obtain ⟨E1, E2, E3⟩ := E
  go_enter Tryz.func87, Tryz.ntmps87
  go_wp2_with fail
  refine (H.out _).mono ?_
  rintro e w1 ⟨rfl, rfl⟩
  go_wp2_with fail
  refine (HT.out _ C1).mono ?_
  rintro e w2 ⟨rfl, B2⟩
  go_wp2
  go_ret3
  exact ⟨ret3_iib rfl rfl (eq_dec _ _), C1.trans (B2.mono C1.size)⟩
theorem response_any (m reason : ByteArray) (code minor : Int) (fs : Fs) (a b : Option Addr) (c x y : Nat) (w : World) (hf : Fds w.heap.size w (.slice a fs.length c) fs) (hb : FBd 1048576 fs) (hl : fs.length ≤ 1024) (hM : MaxL w) :
    Calls Tryz.prog 87 #[.string m, .agg #[.int .i64 code, .string reason, .int .i64 minor, .slice a fs.length c, .slice b x y]] w fun e w' => e = .returned (.tuple #[.int .i64 (respF m code minor fs).1, .int .i64 (respF m code minor fs).2.1, .bool (respF m code minor fs).2.2]) ∧ Below w.heap.size w w' := by
  unfold respF
  cases h : bareF m code
  · rw [if_neg (by decide)]
    exact resp_full m reason code minor fs a b c x y w h hf hb hl hM
  · rw [if_pos rfl]
    exact resp_bare m reason code minor a b fs.length c x y w h
end Go.Proofs.YtkdnckkdofoaoaaGreatDoor

/- Messages, plain: heads, bodies, requests and responses, as package http reads them. -/
namespace Go.Proofs.YtkdnckkdofoaoaaGreatDoor
open Go.RowKit
set_option linter.unusedVariables false

/-- The status of a line that isn't whole. -/
def hst (full : Bool) (e : Int) : Int := if e = 0 then (if full = true then 431 else 0) else 400
def plusH (acc : Fs) (at_ : Nat) (r : Fs × Nat × Int) : Fs × Nat × Int := if r.2.1 = 0 then ([], 0, r.2.2) else (acc ++ r.1, at_ + r.2.1, 0)
def fOf (l : List UInt8) : ByteArray × ByteArray := ((prs (tx l)).1, (prs (tx l)).2.1)
def fldK (full : Bool) (l : List UInt8) (rest : Nat → Fs × Nat × Int) : Fs × Nat × Int :=
  match cutAt 2048 0 l with
  | (none, e) => ([], 0, hst full e)
  | (some i, _) => if i = 0 then ([], 2, 0) else if fldOk (l.take i) = true then rest i else ([], 0, 400)
/-- The fields of a head, of which r more may come, how many bytes they take with the empty line, and a status. -/
def fldL (full : Bool) : Nat → List UInt8 → Fs × Nat × Int
  | 0, l => fldK full l fun _ => ([], 0, 431)
  | r + 1, l => fldK full l fun i => plusH [fOf (l.take i)] (i + 2) (fldL full r (l.drop (i + 2)))
theorem fldK_miss {full : Bool} {l : List UInt8} {e : Int} {f : Nat → Fs × Nat × Int} (h : cutAt 2048 0 l = (none, e)) : fldK full l f = ([], 0, hst full e) := by
  unfold fldK; rw [h]
theorem fldK_end {full : Bool} {l : List UInt8} {f : Nat → Fs × Nat × Int} (h : cutAt 2048 0 l = (some 0, 0)) : fldK full l f = ([], 2, 0) := by
  unfold fldK; rw [h]; rfl
theorem fldK_bad {full : Bool} {i : Nat} {l : List UInt8} {f : Nat → Fs × Nat × Int} (h : cutAt 2048 0 l = (some i, 0)) (hi : ¬ i = 0) (hf : fldOk (l.take i) = false) : fldK full l f = ([], 0, 400) := by
  unfold fldK; rw [h]; simp only; rw [if_neg hi, if_neg (by rw [hf]; decide)]
theorem fldK_next {full : Bool} {i : Nat} {l : List UInt8} {f : Nat → Fs × Nat × Int} (h : cutAt 2048 0 l = (some i, 0)) (hi : ¬ i = 0) (hf : fldOk (l.take i) = true) : fldK full l f = f i := by
  unfold fldK; rw [h]; simp only; rw [if_neg hi, if_pos hf]
theorem fldL_miss {full : Bool} {r : Nat} {l : List UInt8} {e : Int} (h : cutAt 2048 0 l = (none, e)) : fldL full r l = ([], 0, hst full e) := by
  cases r <;> exact fldK_miss h
theorem fldL_end {full : Bool} {r : Nat} {l : List UInt8} (h : cutAt 2048 0 l = (some 0, 0)) : fldL full r l = ([], 2, 0) := by
  cases r <;> exact fldK_end h
theorem fldL_bad {full : Bool} {r i : Nat} {l : List UInt8} (h : cutAt 2048 0 l = (some i, 0)) (hi : ¬ i = 0) (hf : fldOk (l.take i) = false) : fldL full r l = ([], 0, 400) := by
  cases r <;> exact fldK_bad h hi hf
theorem fldL_many {full : Bool} {i : Nat} {l : List UInt8} (h : cutAt 2048 0 l = (some i, 0)) (hi : ¬ i = 0) (hf : fldOk (l.take i) = true) : fldL full 0 l = ([], 0, 431) := fldK_next h hi hf
theorem fldL_next {full : Bool} {r i : Nat} {l : List UInt8} (h : cutAt 2048 0 l = (some i, 0)) (hi : ¬ i = 0) (hf : fldOk (l.take i) = true) : fldL full (r + 1) l = plusH [fOf (l.take i)] (i + 2) (fldL full r (l.drop (i + 2))) := fldK_next h hi hf
theorem plusH_plusH (a b : Fs) (i j : Nat) (r : Fs × Nat × Int) (hj : 0 < j) : plusH a i (plusH b j r) = plusH (a ++ b) (i + j) r := by
  unfold plusH
  by_cases h : r.2.1 = 0
  · rw [if_pos h, if_pos h]; rfl
  · rw [if_neg h, if_neg h]
    simp only
    rw [if_neg (by omega), List.append_assoc, Nat.add_assoc]
theorem plusH_err (a : Fs) (i : Nat) (e : Int) : plusH a i ([], 0, e) = ([], 0, e) := rfl

theorem prs_bd (s : ByteArray) : (prs s).1.size ≤ 1000 ∧ (prs s).2.1.size ≤ 1000 := by
  unfold prs
  split
  · rename_i h
    have h2 := (Bool.and_eq_true_iff.1 h).2
    unfold okF okName okVal at h2
    simp only [Bool.and_eq_true, decide_eq_true_eq] at h2
    exact ⟨by have := h2.1.1; simp only; omega, by have := h2.2.1.1; simp only; omega⟩
  · exact ⟨by decide, by decide⟩

/-- What holds of fields that were read. -/
structure FlOk (r : Nat) (L : Nat) (R : Fs × Nat × Int) : Prop where
  len : R.1.length ≤ r
  bd : FBd 1000 R.1
  le : R.2.1 ≤ L
  zero : R.2.1 = 0 → R.1 = []
  st : ¬ R.2.1 = 0 → R.2.2 = 0
theorem FlOk.no (r L : Nat) (e : Int) : FlOk r L ([], 0, e) := ⟨Nat.zero_le _, (fun f hf => by cases hf), Nat.zero_le _, (fun _ => rfl), fun h => absurd rfl h⟩
theorem fOf_bd (l : List UInt8) : (fOf l).1.size ≤ 1000 ∧ (fOf l).2.size ≤ 1000 := prs_bd (tx l)
theorem FlOk.plus {r L i : Nat} {R : Fs × Nat × Int} (h : FlOk r (L - i) R) (hi : 0 < i) (hl : i ≤ L) (f : ByteArray × ByteArray) (hf : f.1.size ≤ 1000 ∧ f.2.size ≤ 1000) : FlOk (r + 1) L (plusH [f] i R) := by
  unfold plusH
  by_cases h0 : R.2.1 = 0
  · rw [if_pos h0]; exact FlOk.no _ _ _
  · rw [if_neg h0]
    refine ⟨?_, ?_, ?_, ?_, fun _ => rfl⟩
    · have := h.len; simp only [List.length_append, List.length_cons, List.length_nil]; omega
    · intro g hg
      rcases List.mem_append.1 hg with k | k
      · rw [List.mem_singleton.1 k]; exact hf
      · exact h.bd g k
    · have := h.le; simp only; omega
    · intro k; simp only at k; omega
theorem fldL_ok (full : Bool) : ∀ (r : Nat) (l : List UInt8), FlOk r l.length (fldL full r l) := by
  intro r
  induction r with
  | zero =>
    intro l
    rcases cut_cases 2048 l with ⟨i, hc, hl, _⟩ | ⟨e, hc⟩
    · by_cases hi : i = 0
      · subst hi; rw [fldL_end hc]; exact ⟨Nat.le_refl _, (fun f hf => by cases hf), hl, (fun k => by cases k), fun _ => rfl⟩
      · cases hf : fldOk (l.take i)
        · rw [fldL_bad hc hi hf]; exact FlOk.no _ _ _
        · rw [fldL_many hc hi hf]; exact FlOk.no _ _ _
    · rw [fldL_miss hc]; exact FlOk.no _ _ _
  | succ r ih =>
    intro l
    rcases cut_cases 2048 l with ⟨i, hc, hl, _⟩ | ⟨e, hc⟩
    · by_cases hi : i = 0
      · subst hi; rw [fldL_end hc]; exact ⟨Nat.zero_le _, (fun f hf => by cases hf), hl, (fun k => by cases k), fun _ => rfl⟩
      · cases hf : fldOk (l.take i)
        · rw [fldL_bad hc hi hf]; exact FlOk.no _ _ _
        · rw [fldL_next hc hi hf]
          have h := ih (l.drop (i + 2))
          rw [List.length_drop] at h
          exact h.plus (by omega) hl _ (fOf_bd _)
    · rw [fldL_miss hc]; exact FlOk.no _ _ _

def fullB (b : List UInt8) : Bool := decide (2048 ≤ b.length)
/-- A head, whose first line's status is told by st. -/
def headL (st : ByteArray → Int) (b : List UInt8) : Fs × Nat × Int :=
  match cutAt 2048 0 (b.take 2048) with
  | (none, e) => ([], 0, hst (fullB b) e)
  | (some i, _) => if st (tx ((b.take 2048).take i)) = 0 then plusH [] (i + 2) (fldL (fullB b) 40 ((b.take 2048).drop (i + 2))) else ([], 0, st (tx ((b.take 2048).take i)))
/-- Its first line. -/
def firstL (b : List UInt8) : ByteArray := match cutAt 2048 0 (b.take 2048) with | (some i, _) => tx ((b.take 2048).take i) | _ => tx []
theorem headL_miss {st : ByteArray → Int} {b : List UInt8} {e : Int} (h : cutAt 2048 0 (b.take 2048) = (none, e)) : headL st b = ([], 0, hst (fullB b) e) := by
  unfold headL; rw [h]
theorem headL_bad {st : ByteArray → Int} {b : List UInt8} {i : Nat} {e : Int} (h : cutAt 2048 0 (b.take 2048) = (some i, e)) (hs : ¬ st (tx ((b.take 2048).take i)) = 0) : headL st b = ([], 0, st (tx ((b.take 2048).take i))) := by
  unfold headL; rw [h]; simp only; rw [if_neg hs]
theorem headL_hit {st : ByteArray → Int} {b : List UInt8} {i : Nat} {e : Int} (h : cutAt 2048 0 (b.take 2048) = (some i, e)) (hs : st (tx ((b.take 2048).take i)) = 0) : headL st b = plusH [] (i + 2) (fldL (fullB b) 40 ((b.take 2048).drop (i + 2))) := by
  unfold headL; rw [h]; simp only; rw [if_pos hs]
theorem firstL_hit {b : List UInt8} {i : Nat} {e : Int} (h : cutAt 2048 0 (b.take 2048) = (some i, e)) : firstL b = tx ((b.take 2048).take i) := by
  unfold firstL; rw [h]
theorem headL_ok (st : ByteArray → Int) (b : List UInt8) : FlOk 40 (min 2048 b.length) (headL st b) := by
  have hlt : (b.take 2048).length = min 2048 b.length := List.length_take
  rcases cut_cases 2048 (b.take 2048) with ⟨i, hc, hl, _⟩ | ⟨e, hc⟩
  · by_cases hs : st (tx ((b.take 2048).take i)) = 0
    · rw [headL_hit hc hs]
      have h := fldL_ok (fullB b) 40 ((b.take 2048).drop (i + 2))
      rw [List.length_drop] at h
      unfold plusH
      by_cases h0 : (fldL (fullB b) 40 ((b.take 2048).drop (i + 2))).2.1 = 0
      · rw [if_pos h0]; exact FlOk.no _ _ _
      · rw [if_neg h0]
        exact ⟨h.len, h.bd, by have := h.le; simp only; omega, (fun k => by simp only at k; omega), fun _ => rfl⟩
    · rw [headL_bad hc hs]; exact FlOk.no _ _ _
  · rw [headL_miss hc]; exact FlOk.no _ _ _

def tHost : ByteArray := ⟨#[72, 111, 115, 116]⟩
/-- Could nobody take a request for another host's? -/
def hostsOk (hs : List ByteArray) (minor : Int) : Bool := match hs with
  | [] => !(minor == 1)
  | h :: r => decide (r.length = 0) && (hostP h).2
def headSt (fs : Fs) (minor : Int) : Int := if hostsOk (getF fs tHost) minor = true then (reqF fs minor).2.2 else 400
/-- The head of a request. -/
structure Hd where
  m : ByteArray
  t : ByteArray
  minor : Int
  fs : Fs
  n : Nat
  st : Int
def hdNo (st : Int) : Hd := ⟨⟨#[]⟩, ⟨#[]⟩, 0, [], 0, st⟩
def rqSt (s : ByteArray) : Int := (rqP s).code
def headQ (b : List UInt8) : Hd :=
  if (headL rqSt b).2.1 = 0 then hdNo (headL rqSt b).2.2
  else if headSt (headL rqSt b).1 (rqP (firstL b)).minor = 0 then ⟨(rqP (firstL b)).method, (rqP (firstL b)).target, (rqP (firstL b)).minor, (headL rqSt b).1, (headL rqSt b).2.1, 0⟩
  else hdNo (headSt (headL rqSt b).1 (rqP (firstL b)).minor)
/-- A body behind a head: its bytes, how many bytes both take, the error. -/
def bodyQ (b : List UInt8) (head : Nat) (size : Int) (coded : Bool) : List UInt8 × Nat × Int :=
  if coded = true then (if (decR 4096 (b.drop head)).2.1 = 0 then ([], 0, (decR 4096 (b.drop head)).2.2) else ((decR 4096 (b.drop head)).1, head + (decR 4096 (b.drop head)).2.1, 0))
  else if ((b.length - head : Nat) : Int) < size then ([], 0, 0) else ((b.drop head).take size.toNat, head + size.toNat, 0)
def bodySt (e : Int) : Int := if e = 0 then 0 else if e = 2 then 413 else 400
/-- A request, its body, how many bytes it takes, its status. -/
structure Rd where
  m : ByteArray
  t : ByteArray
  minor : Int
  fs : Fs
  body : List UInt8
  n : Nat
  st : Int
def rdNo (st : Int) : Rd := ⟨⟨#[]⟩, ⟨#[]⟩, 0, [], [], 0, st⟩
def rdOf (h : Hd) (x : List UInt8 × Nat × Int) : Rd := if x.2.1 = 0 then rdNo (bodySt x.2.2) else ⟨h.m, h.t, h.minor, h.fs, x.1, x.2.1, 0⟩
def bodyOf (h : Hd) (b : List UInt8) : List UInt8 × Nat × Int := bodyQ b h.n (reqF h.fs h.minor).1 (reqF h.fs h.minor).2.1
def reqQ (b : List UInt8) : Rd := if (headQ b).n = 0 then rdNo (headQ b).st else rdOf (headQ b) (bodyOf (headQ b) b)
/-- What holds of a head. -/
structure HdOk (L : Nat) (h : Hd) : Prop where
  len : h.fs.length ≤ 40
  bd : FBd 1000 h.fs
  le : h.n ≤ L ∧ h.n ≤ 2048
  no : h.n = 0 → h = hdNo h.st
  st : ¬ h.n = 0 → h.st = 0
theorem headQ_ok (b : List UInt8) : HdOk b.length (headQ b) := by
  have k := headL_ok rqSt b
  unfold headQ
  by_cases h0 : (headL rqSt b).2.1 = 0
  · rw [if_pos h0]; exact ⟨Nat.zero_le _, (fun f hf => by cases hf), ⟨Nat.zero_le _, Nat.zero_le _⟩, (fun _ => rfl), fun h => absurd rfl h⟩
  · rw [if_neg h0]
    split
    · exact ⟨k.len, k.bd, ⟨by have := k.le; simp only; omega, by have := k.le; simp only; omega⟩, (fun h => absurd h h0), fun _ => rfl⟩
    · exact ⟨Nat.zero_le _, (fun f hf => by cases hf), ⟨Nat.zero_le _, Nat.zero_le _⟩, (fun _ => rfl), fun h => absurd rfl h⟩
theorem told_nn (fs : Fs) (minor : Int) : 0 ≤ (toldF fs minor).2.1 ∧ (toldF fs minor).2.1 ≤ 4096 := by
  have h := lenL_bd (listF fs tCL)
  have h2 : 0 ≤ (lengthF fs).1 := h.1
  unfold toldF
  split
  · exact ⟨by decide, by decide⟩
  · split
    · split <;> exact ⟨by decide, by decide⟩
    · split
      · exact ⟨by decide, by decide⟩
      · split
        · exact ⟨by decide, by decide⟩
        · split
          · exact ⟨by decide, by decide⟩
          · rename_i q; exact ⟨h2, by simp only; omega⟩
end Go.Proofs.YtkdnckkdofoaoaaGreatDoor

/- Package http: a line of a head. -/
namespace Go.Proofs.YtkdnckkdofoaoaaGreatDoor
open Go.RowKit
set_option linter.unusedVariables false

/-- The room of a head, from a place on. -/
def roomL (b : List UInt8) (at_ : Nat) : List UInt8 := (b.take 2048).drop at_
def hcutV (b : List UInt8) (at_ : Nat) : Value := match cutAt 2048 0 (roomL b at_) with
  | (some i, _) => .tuple #[.string (tx ((roomL b at_).take i)), .int .i64 ((i : Int) + 2), .int .i64 0]
  | (none, e) => .tuple #[.string ⟨#[]⟩, .int .i64 0, .int .i64 (hst (fullB b) e)]
theorem hcutV_hit {b : List UInt8} {at_ i : Nat} {e : Int} (h : cutAt 2048 0 (roomL b at_) = (some i, e)) : hcutV b at_ = .tuple #[.string (tx ((roomL b at_).take i)), .int .i64 ((i : Int) + 2), .int .i64 0] := by
  unfold hcutV; rw [h]
theorem hcutV_miss {b : List UInt8} {at_ : Nat} {e : Int} (h : cutAt 2048 0 (roomL b at_) = (none, e)) : hcutV b at_ = .tuple #[.string ⟨#[]⟩, .int .i64 0, .int .i64 (hst (fullB b) e)] := by
  unfold hcutV; rw [h]
set_option maxRecDepth 100000 in
set_option maxHeartbeats 2000000 in
theorem hcut_any (b : List UInt8) (kb c : Nat) (a : Option Addr) (at_ : Nat) (w : World) (hs : Src w kb (.slice a b.length c) b) (hat : at_ ≤ min 2048 b.length) :
    Calls Tryz.prog 67 #[.slice a b.length c, .int .i64 (at_ : Nat)] w fun e w' => e = .returned (hcutV b at_) ∧ w' = w := by
  have hlen := hs.len
  obtain ⟨n, hn⟩ : ∃ n, n = b.length := ⟨_, rfl⟩
  obtain ⟨m, hm⟩ : ∃ m, m = min 2048 n := ⟨_, rfl⟩
  have hmin : min (n : Int) 2048 = (m : Int) := by omega
  have hR : roomL b at_ = (b.take m).drop at_ := by
    unfold roomL
    congr 1
    rw [hm, hn, ← List.take_eq_take_min]
  have HC : Hid (∀ v' : Value, Src w kb v' (roomL b at_) → Calls Tryz.prog 115 #[v', .int .i64 2048] w fun e w' => e = .returned (cutV 2048 (roomL b at_)) ∧ w' = w) := fun v' h => cut_any _ kb v' 2048 w h
  have hcell : Hid (∀ a' : Option Addr, (at_ < c → a' = a.map (fun x => x.add at_)) → Src w kb (.slice a' (m - at_) (c - at_)) (roomL b at_)) := fun a' ha' => by
    rw [hR]
    exact (hs.take (m := m) (by omega)).cut (by rw [List.length_take]; omega) ha'
  have hfull : fullB b = decide (m = 2048) := by unfold fullB; rw [decide_eq_decide]; omega
  rw [← hn] at hlen ⊢
  have hc1 : m ≤ c := by omega
  have hat1 : at_ ≤ m := by omega
  have hc2 : c ≤ maxLen := hlen.2.2
  unfold maxLen at hc2
  have hmn : m ≤ n := by omega
  have hm2 : m ≤ 2048 := by omega
  have hnc : n ≤ c := by omega
  clear hs hat hlen hn hR hm
  rcases cut_cases 2048 (roomL b at_) with ⟨i, hc, hl, _⟩ | ⟨e, hc⟩
  · rw [hcutV_hit hc]
    rw [cutV_hit hc] at HC
    have hi : i ≤ 2048 := cutAt_le 2048 _ 0 i 0 (by decide) hc
    have hi2 : (((i : Int) + 2) == 0) = false := by simp; omega
    have hi3 : ¬ ((i : Int) + 2) = 0 := by omega
    clear hc hl hfull
    show Calls Tryz.prog 67 #[.slice a n c, .int .i64 (at_ : Nat)] w fun e w' => e = .returned (.tuple #[.string ⟨((roomL b at_).take i).toArray⟩, .int .i64 ((i : Int) + 2), .int .i64 0]) ∧ w' = w
    generalize (⟨((roomL b at_).take i).toArray⟩ : ByteArray) = s at *
    go_enter Tryz.func67, Tryz.ntmps67
    go_wp2_with fail
    all_goals
      refine (HC.out _ (by first | (have hx := hcell.out a (fun h => by omega); rw [show c - at_ = 0 by omega] at hx; exact hx) | exact hcell.out _ (fun _ => rfl) | exact hcell.out _ (fun h => if_neg (by omega)) | exact hcell.out _ (fun h => by omega))).mono ?_
      rintro e w1 ⟨rfl, rfl⟩
      go_wp2
      go_ret3
      exact ⟨rfl, rfl⟩
  · rw [hcutV_miss hc]
    rw [cutV_miss hc] at HC
    clear hc
    by_cases he : e = 0
    · subst he
      by_cases hf : m = 2048
      · subst hf
        rw [hfull]
        show Calls Tryz.prog 67 #[.slice a n c, .int .i64 (at_ : Nat)] w fun e w' => e = .returned (.tuple #[.string ⟨#[]⟩, .int .i64 0, .int .i64 431]) ∧ w' = w
        clear hfull
        go_enter Tryz.func67, Tryz.ntmps67
        go_wp2_with fail
        all_goals
          refine (HC.out _ (by first | (have hx := hcell.out a (fun h => by omega); rw [show c - at_ = 0 by omega] at hx; exact hx) | exact hcell.out _ (fun _ => rfl) | exact hcell.out _ (fun h => if_neg (by omega)) | exact hcell.out _ (fun h => by omega))).mono ?_
          rintro e w1 ⟨rfl, rfl⟩
          go_wp2
          go_ret3
          exact ⟨rfl, rfl⟩
      · have hf2 : ((m : Int) == 2048) = false := by simp; omega
        have hf3 : ¬ (m : Int) = 2048 := by omega
        have e1 : hst (fullB b) 0 = 0 := by rw [hfull, decide_eq_false hf]; rfl
        rw [e1]
        clear hfull e1 hf
        go_enter Tryz.func67, Tryz.ntmps67
        go_wp2_with fail
        all_goals
          refine (HC.out _ (by first | (have hx := hcell.out a (fun h => by omega); rw [show c - at_ = 0 by omega] at hx; exact hx) | exact hcell.out _ (fun _ => rfl) | exact hcell.out _ (fun h => if_neg (by omega)) | exact hcell.out _ (fun h => by omega))).mono ?_
          rintro e w1 ⟨rfl, rfl⟩
          go_wp2
          go_ret3
          exact ⟨rfl, rfl⟩
    · have e1 : hst (fullB b) e = 400 := by unfold hst; rw [if_neg he]
      have he2 : (e != 0) = true := by simpa using he
      rw [e1]
      clear hfull e1
      go_enter Tryz.func67, Tryz.ntmps67
      go_wp2_with fail
      all_goals
        refine (HC.out _ (by first | (have hx := hcell.out a (fun h => by omega); rw [show c - at_ = 0 by omega] at hx; exact hx) | exact hcell.out _ (fun _ => rfl) | exact hcell.out _ (fun h => if_neg (by omega)) | exact hcell.out _ (fun h => by omega))).mono ?_
        rintro e w1 ⟨rfl, rfl⟩
        go_wp2
        go_ret3
        exact ⟨rfl, rfl⟩
end Go.Proofs.YtkdnckkdofoaoaaGreatDoor

/- Package http: the lines of a request's head. -/
namespace Go.Proofs.YtkdnckkdofoaoaaGreatDoor
open Go.RowKit
set_option linter.unusedVariables false

set_option maxRecDepth 100000 in
set_option maxHeartbeats 2000000 in
theorem head1_any (s : ByteArray) (Y0 Y1 Y2 Y3 Y4 : Value) (u W : World) (hP : PI u (.cells #[Y0, Y1, Y2, Y3, Y4] 26) W) (hs : s.size < 4294967281) (hM : MaxL u) :
    Calls Tryz.prog 35 #[.string s, .pointer (some ⟨u.heap.size, 0, none⟩)] W fun e w' => e = .returned (.int .i64 (rqSt s)) ∧ PI u (.cells #[.string (rqP s).method, .string (rqP s).target, .int .i64 (rqP s).minor, .slice none 0 0, .slice none 0 0] 26) w' ∧ W.heap.size ≤ w'.heap.size := by
  have HL : Hid (Calls Tryz.prog 36 #[.string s] W fun e w' => e = .returned (.tuple #[.agg #[.string (rqP s).method, .string (rqP s).target, .int .i64 (rqP s).minor, .slice none 0 0, .slice none 0 0], .int .i64 (rqSt s)]) ∧ Below W.heap.size W w') := lreq_any s W hs (hM.below hP.below)
  have HP : Hid _ := hP
  clear hs hM hP
  generalize rqSt s = st at *
  generalize (rqP s).method = m at *
  generalize (rqP s).target = t at *
  generalize (rqP s).minor = mi at *
  go_enter Tryz.func35, Tryz.ntmps35
  go_wp2_with fail
  refine HL.out.mono ?_
  rintro e w1 ⟨rfl, B1⟩
  have P1 := HP.out.next B1
  have hg2 := P1.own
  have HW := five_cells hg2 (.string m) (.string t) (.int .i64 mi) (.slice none 0 0) (.slice none 0 0)
  have HB := five_below (.string m) (.string t) (.int .i64 mi) (.slice none 0 0) (.slice none 0 0) P1.below (Nat.le_refl _)
  have a0 := tblk_cell (i := 0) hg2 rfl
  have z0 := lblk_z (i := 0) hg2
  have a1 := tblk_cell (i := 1) hg2 rfl
  have z1 := lblk_z (i := 1) hg2
  have a2 := tblk_cell (i := 2) hg2 rfl
  have z2 := lblk_z (i := 2) hg2
  have a3 := tblk_cell (i := 3) hg2 rfl
  have z3 := lblk_z (i := 3) hg2
  have a4 := tblk_cell (i := 4) hg2 rfl
  have z4 := lblk_z (i := 4) hg2
  have hsz : Hid (W.heap.size ≤ (five w1 u.heap.size (.string m) (.string t) (.int .i64 mi) (.slice none 0 0) (.slice none 0 0)).heap.size) := by
    rw [Hid]; unfold five; simp; exact B1.size
  have HX : Hid (PI u (.cells #[.string m, .string t, .int .i64 mi, .slice none 0 0, .slice none 0 0] 26) (five w1 u.heap.size (.string m) (.string t) (.int .i64 mi) (.slice none 0 0) (.slice none 0 0))) := ⟨HB, HW⟩
  unfold five at HX hsz
  clear HB HW hg2 P1 B1 HL HP
  go_wp2
  go_ret
  exact ⟨rfl, HX.out, hsz.out⟩

set_option maxRecDepth 100000 in
set_option maxHeartbeats 4000000 in
theorem readA_any (b : List UInt8) (kb c : Nat) (a : Option Addr) (Y0 Y1 Y2 Y3 Y4 : Value) (u W : World) (hP : PI u (.cells #[Y0, Y1, Y2, Y3, Y4] 26) W) (hs : Src u kb (.slice a b.length c) b) (hk : 0 < b.length → kb < u.heap.size) (hM : MaxL u) :
    Calls Tryz.prog 34 #[.slice a b.length c, .func (.func 35) #[] #[.pointer (some ⟨u.heap.size, 0, none⟩)]] W fun e w' => ∃ fa fc, e = .returned (.tuple #[.slice fa (headL rqSt b).1.length fc, .int .i64 ((headL rqSt b).2.1 : Nat), .int .i64 (headL rqSt b).2.2]) ∧ OwnF W.heap.size w' (.slice fa (headL rqSt b).1.length fc) (headL rqSt b).1 ∧
      ∃ o, PI u o w' ∧ (¬ (headL rqSt b).2.1 = 0 → o = .cells #[.string (rqP (firstL b)).method, .string (rqP (firstL b)).target, .int .i64 (rqP (firstL b)).minor, .slice none 0 0, .slice none 0 0] 26) := by
  have hlen := hs.len
  obtain ⟨n, hn⟩ : ∃ n, n = b.length := ⟨_, rfl⟩
  have HN : Hid (n = b.length) := hn
  have HCUT : Hid (∀ (X : World) (at_ : Nat), Below u.heap.size u X → at_ ≤ min 2048 n → Calls Tryz.prog 67 #[.slice a n c, .int .i64 (at_ : Nat)] X fun e w' => e = .returned (hcutV b at_) ∧ w' = X) := fun X at_ hX ha => by
    have k := hcut_any b kb c a at_ X (hs.keep hk hX) (by omega)
    rw [← hn] at k
    exact k
  have HOK : Hid (FlOk 40 (min 2048 b.length) (headL rqSt b)) := headL_ok _ _
  have hcc := cut_cases 2048 (b.take 2048)
  have hltk : (b.take 2048).length = min 2048 n := by rw [List.length_take, HN.out]
  rw [← hn]
  clear hs hk hlen hn
  have HPar : Hid (∀ (X : World) (s : ByteArray), Below u.heap.size u X → s.size ≤ 2048 → Calls Tryz.prog 55 #[.string s] X fun e w' => e = .returned (.tuple #[.agg #[.string (prs s).1, .string (prs s).2.1], .int .i64 (prs s).2.2]) ∧ Below X.heap.size X w') := fun X s hX hz => parse_any s X (by omega) (hM.below hX)
  have HTell : Hid (∀ s : ByteArray, s.size ≤ 2048 → Calls Tryz.prog 35 #[.string s, .pointer (some ⟨u.heap.size, 0, none⟩)] W fun e w' => e = .returned (.int .i64 (rqSt s)) ∧ PI u (.cells #[.string (rqP s).method, .string (rqP s).target, .int .i64 (rqP s).minor, .slice none 0 0, .slice none 0 0] 26) w' ∧ W.heap.size ≤ w'.heap.size) := fun s hz => head1_any s _ _ _ _ _ u W hP (by omega) hM
  have hr0 : roomL b 0 = b.take 2048 := rfl
  have HP : Hid (PI u (.cells #[Y0, Y1, Y2, Y3, Y4] 26) W) := hP
  clear hP hM
  rcases hcc with ⟨i, hc, hl, _⟩ | ⟨er, hc⟩
  · have hv := hcutV_hit (b := b) (at_ := 0) (by rw [hr0]; exact hc)
    rw [hr0] at hv
    have hz : Hid ((tx ((b.take 2048).take i)).size ≤ 2048) := by rw [Hid, tx_size, List.length_take]; omega
    have hfl : firstL b = tx ((b.take 2048).take i) := firstL_hit hc
    rw [hltk] at hl
    by_cases hst : rqSt (tx ((b.take 2048).take i)) = 0
    · have HH : Hid (headL rqSt b = plusH [] (i + 2) (fldL (fullB b) 40 (roomL b (i + 2)))) := headL_hit hc hst
      have HT2 : Hid (Calls Tryz.prog 35 #[.string (tx ((b.take 2048).take i)), .pointer (some ⟨u.heap.size, 0, none⟩)] W fun e w' => e = .returned (.int .i64 0) ∧ PI u (.cells #[.string (rqP (tx ((b.take 2048).take i))).method, .string (rqP (tx ((b.take 2048).take i))).target, .int .i64 (rqP (tx ((b.take 2048).take i))).minor, .slice none 0 0, .slice none 0 0] 26) w' ∧ W.heap.size ≤ w'.heap.size) := by
        have k := HTell.out _ hz.out
        rw [hst] at k
        exact k
      have HC2 : Hid (Calls Tryz.prog 67 #[.slice a n c, .int .i64 0] W fun e w' => e = .returned (.tuple #[.string (tx ((b.take 2048).take i)), .int .i64 ((i : Int) + 2), .int .i64 0]) ∧ w' = W) := by
        have k := HCUT.out W 0 HP.out.below (Nat.zero_le _)
        rw [hv] at k
        exact k
      rw [hfl]
      have hii : i ≤ 2046 := by omega
      have hii2 : ¬ ((i : Int) + 2) = 0 := by omega
      have hii3 : (((i : Int) + 2) == 0) = false := by simpa using hii2
      generalize tx ((b.take 2048).take i) = first at *
      generalize hR : headL rqSt b = R at *
      have HR : Hid (headL rqSt b = R) := hR
      clear hR hst hc hv HTell hltk hr0 hfl
      go_enter Tryz.func34, Tryz.ntmps34
      go_wp2_with fail
      refine HC2.out.mono ?_
      rintro e w1 ⟨rfl, rfl⟩
      go_wp2_with fail
      refine HT2.out.mono ?_
      rintro e w2 ⟨rfl, P2, hsz2⟩
      have HP2 : Hid (PI u (.cells #[.string (rqP first).method, .string (rqP first).target, .int .i64 (rqP first).minor, .slice none 0 0, .slice none 0 0] 26) w2) := P2
      clear HC2 HT2 P2 HP
      have hst0 : i + 2 ≤ min 2048 n := by omega
      go_wp2_with fail
      go_loopw [8, 11] (fun va vf wr => ∃ (at_ : Nat) (acc : Fs) (fa : Option Addr) (fc : Nat), at_ ≤ min 2048 n ∧ 0 < at_ ∧ acc.length ≤ 40 ∧ va = .int .i64 at_ ∧ vf = .slice fa acc.length fc ∧ OwnF w2.heap.size wr vf acc ∧ Hid (R = plusH acc at_ (fldL (fullB b) (40 - acc.length) (roomL b at_))) ∧ Below w2.heap.size w2 wr) (fun va _ _ => n - (intOf va).toNat)
      case atStart => exact ⟨i + 2, [], none, 0, hst0, by omega, Nat.zero_le _, by go_num, rfl, OwnF.nil _ _, HH, Below.refl _ _⟩
      case round =>
        obtain ⟨at_, acc, fa, fc, hat, hat0, hacc, rfl, rfl, hO, hR, hB⟩ := hrel
        have hPw := HP2.out.next hB
        have HCr := HCUT.out wr at_ hPw.below hat
        have hroom : (roomL b at_).length = min 2048 n - at_ := by unfold roomL; rw [List.length_drop, List.length_take, HN.out]
        rcases cut_cases 2048 (roomL b at_) with ⟨j, hc, hl, _⟩ | ⟨er, hc⟩
        · rw [hcutV_hit hc] at HCr
          rw [hroom] at hl
          have HC3 : Hid (Calls Tryz.prog 67 #[.slice a n c, .int .i64 (at_ : Nat)] wr fun e w' => e = .returned (.tuple #[.string (tx ((roomL b at_).take j)), .int .i64 ((j : Int) + 2), .int .i64 0]) ∧ w' = wr) := HCr
          have hjj : j ≤ 2046 := by omega
          have hj2 : ¬ ((j : Int) + 2) = 0 := by omega
          have hj3 : (((j : Int) + 2) == 0) = false := by simpa using hj2
          by_cases h0 : j = 0
          · subst h0
            have HE : Hid (R = (acc, at_ + 2, 0)) := by
              rw [Hid, hR.out, fldL_end hc]
              unfold plusH
              rw [if_neg (by decide), List.append_nil]
            have HC4 : Hid (Calls Tryz.prog 67 #[.slice a n c, .int .i64 (at_ : Nat)] wr fun e w' => e = .returned (.tuple #[.string ⟨#[]⟩, .int .i64 2, .int .i64 0]) ∧ w' = wr) := HC3.out
            clear hR hc HCr HC3 hroom hj2 hj3
            have HO2 : Hid (OwnF w2.heap.size wr (.slice fa acc.length fc) acc) := hO
            have HPw : Hid _ := hPw
            clear hO hPw
            go_wp2_with fail
            refine HC4.out.mono ?_
            rintro e w3 ⟨rfl, rfl⟩
            go_wp2
            refine bodyPost_ret (v := .tuple #[.slice fa acc.length fc, .int .i64 ((at_ : Int) + 2), .int .i64 0]) (by simp [results, Tryz.results34, go_sem]) rfl ?_
            rw [HE.out]
            exact ⟨fa, fc, rfl, HO2.out.mono hsz2, _, HPw.out, fun _ => rfl⟩
          · have hs2 : (tx ((roomL b at_).take j)).size = j := by rw [tx_size, List.length_take, hroom]; omega
            have hsz : Hid ((tx ((roomL b at_).take j)).size ≤ 2048) := by rw [Hid, hs2]; omega
            have hne : (tx ((roomL b at_).take j)).toList.isEmpty = false := isEmpty_of (by rw [hs2]; exact h0)
            have HPr : Hid (Calls Tryz.prog 55 #[.string (tx ((roomL b at_).take j))] wr fun e w' => e = .returned (.tuple #[.agg #[.string (prs (tx ((roomL b at_).take j))).1, .string (prs (tx ((roomL b at_).take j))).2.1], .int .i64 (prs (tx ((roomL b at_).take j))).2.2]) ∧ Below wr.heap.size wr w') := HPar.out wr _ hPw.below hsz.out
            cases hf : fldOk ((roomL b at_).take j)
            · have HE : Hid (R = ([], 0, 400)) := by rw [Hid, hR.out, fldL_bad hc h0 hf, plusH_err]
              have hpe : ((prs (tx ((roomL b at_).take j))).2.2 != 0) = true := by
                unfold fldOk at hf
                simpa using hf
              clear hR hc HCr hroom hs2 hsz hf
              generalize prs (tx ((roomL b at_).take j)) = pr at *
              generalize tx ((roomL b at_).take j) = s at *
              obtain ⟨p1, p2, p3⟩ := pr
              simp only at HPr hpe
              have HPw : Hid _ := hPw
              clear hO hPw
              go_wp2_with fail
              refine HC3.out.mono ?_
              rintro e w3 ⟨rfl, rfl⟩
              go_wp2_with fail
              refine HPr.out.mono ?_
              rintro e w4 ⟨rfl, B4⟩
              have P4 := (HPw.out.next B4).next ((Below.refl _ _).alloc (Nat.le_refl _) (.cells #[.string p1, .string p2] 41))
              have HP4 : Hid _ := P4
              clear P4 HPw B4
              go_wp2
              refine bodyPost_ret (v := .tuple #[.slice none 0 0, .int .i64 0, .int .i64 400]) (by simp [results, Tryz.results34, go_sem]) rfl ?_
              rw [HE.out]
              exact ⟨none, 0, rfl, OwnF.nil _ _, _, HP4.out, fun _ => rfl⟩
            · have hpe : (prs (tx ((roomL b at_).take j))).2.2 = 0 := by
                unfold fldOk at hf
                simpa using hf
              have hfo : fOf ((roomL b at_).take j) = ((prs (tx ((roomL b at_).take j))).1, (prs (tx ((roomL b at_).take j))).2.1) := rfl
              by_cases h40 : acc.length = 40
              · have HE : Hid (R = ([], 0, 431)) := by rw [Hid, hR.out, h40, fldL_many hc h0 hf, plusH_err]
                have hAL : ((acc.length : Nat) : Int) = 40 := by omega
                clear hR hc HCr hroom hs2 hsz hf hfo
                generalize prs (tx ((roomL b at_).take j)) = pr at *
                generalize tx ((roomL b at_).take j) = s at *
                obtain ⟨p1, p2, p3⟩ := pr
                simp only at HPr hpe
                subst hpe
                have HPw : Hid _ := hPw
                clear hO hPw
                rw [h40]
                go_wp2_with fail
                refine HC3.out.mono ?_
                rintro e w3 ⟨rfl, rfl⟩
                go_wp2_with fail
                refine HPr.out.mono ?_
                rintro e w4 ⟨rfl, B4⟩
                have P4 := (HPw.out.next B4).next ((Below.refl _ _).alloc (Nat.le_refl _) (.cells #[.string p1, .string p2] 41))
                have HP4 : Hid _ := P4
                clear P4 HPw B4
                go_wp2
                refine bodyPost_ret (v := .tuple #[.slice none 0 0, .int .i64 0, .int .i64 431]) (by simp [results, Tryz.results34, go_sem]) rfl ?_
                rw [HE.out]
                exact ⟨none, 0, rfl, OwnF.nil _ _, _, HP4.out, fun _ => rfl⟩
              · have HE : Hid (R = plusH (acc ++ [((prs (tx ((roomL b at_).take j))).1, (prs (tx ((roomL b at_).take j))).2.1)]) (at_ + (j + 2)) (fldL (fullB b) (40 - (acc.length + 1)) (roomL b (at_ + (j + 2))))) := by
                  rw [Hid, hR.out]
                  obtain ⟨r, hr⟩ : ∃ r, 40 - acc.length = r + 1 := ⟨40 - acc.length - 1, by omega⟩
                  rw [hr, fldL_next hc h0 hf, plusH_plusH _ _ _ _ _ (by omega), hfo]
                  have e1 : 40 - (acc.length + 1) = r := by omega
                  have e2 : (roomL b at_).drop (j + 2) = roomL b (at_ + (j + 2)) := by unfold roomL; rw [List.drop_drop]
                  rw [e1, e2]
                have hAL : ¬ ((acc.length : Nat) : Int) = 40 := by omega
                have hAL2 : (((acc.length : Nat) : Int) == 40) = false := by simpa using hAL
                clear hR hc HCr hroom hs2 hsz hf hfo
                generalize prs (tx ((roomL b at_).take j)) = pr at *
                generalize tx ((roomL b at_).take j) = s at *
                obtain ⟨p1, p2, p3⟩ := pr
                simp only at HPr hpe HE
                subst hpe
                have HO2 : Hid (OwnF w2.heap.size wr (.slice fa acc.length fc) acc) := hO
                have HAC : Hid (acc.length + 1 ≤ 40) := by rw [Hid]; omega
                have HHB : Hid _ := hB
                clear hO hPw hB hacc h40
                generalize hal : acc.length = al at *
                have HAL3 : Hid (acc.length = al) := hal
                clear hal
                go_wp2_with fail
                refine HC3.out.mono ?_
                rintro e w3 ⟨rfl, rfl⟩
                go_wp2_with fail
                refine HPr.out.mono ?_
                rintro e w4 ⟨rfl, B4⟩
                have D4 := B4.alloc B4.size (.cells #[.string p1, .string p2] 41)
                have g4 : (w4.alloc (.cells #[.string p1, .string p2] 41)).heap[w4.heap.size]? = some (.cells #[.string p1, .string p2] 41) := tblk_new _ _
                have c0 : (w4.alloc (.cells #[.string p1, .string p2] 41)).cell? ⟨w4.heap.size, 0, none⟩ = some (.string p1) := tblk_cell g4 rfl
                have c1 : (w4.alloc (.cells #[.string p1, .string p2] 41)).cell? ⟨w4.heap.size, 1, none⟩ = some (.string p2) := tblk_cell g4 rfl
                have own4 := HO2.out.keep D4
                have B5 := HHB.out.trans (D4.mono HHB.out.size)
                clear g4 B4 D4 HPr HC3
                have own5 := own4.keep ((Below.refl _ _).alloc (Nat.le_refl _) (.cells #[.string p1, .string p2] 41))
                obtain ⟨v6, w6, r6, own6, B6⟩ := ownF_append own5 (fds_new (w4.alloc (.cells #[.string p1, .string p2] 41)) p1 p2) (by have := HAC.out; have := HAL3.out; simp; omega) (Nat.le_trans B5.size (by simp))
                have e5 : (w4.alloc (.cells #[.string p1, .string p2] 41)).heap.size = w4.heap.size + 1 := by simp
                have B7 : Below w2.heap.size w2 w6 := (B5.alloc B5.size _).trans B6
                obtain ⟨a6, c6, rfl, _⟩ := own6.form
                have HO6 : Hid (OwnF w2.heap.size w6 (.slice a6 (acc ++ [(p1, p2)]).length c6) (acc ++ [(p1, p2)])) := own6
                have HL : Hid ((acc ++ [(p1, p2)]).length = al + 1) := by rw [Hid, List.length_append, HAL3.out]; rfl
                obtain ⟨L, hL⟩ : ∃ L, L = (acc ++ [(p1, p2)]).length := ⟨_, rfl⟩
                have HR6 : Hid ((Builtin.append_ #[24, 24] 24 #[.slice fa al fc, .slice (some ⟨w4.heap.size + 1, 0, none⟩) 1 1]).run Tryz.prog ((w4.alloc (.cells #[.string p1, .string p2] 41)).alloc (.cells #[.string p1, .string p2] 41)) = .ok (.slice a6 L c6) w6) := by rw [Hid, hL, ← e5]; exact r6
                have HLL : Hid (L = (acc ++ [(p1, p2)]).length) := hL
                have HB7 : Hid _ := B7
                clear own4 own5 own6 B5 B6 B7 r6 hL e5
                go_wp2_with (at_builtin; refine wpList_append_run2 rfl _ _ 24 24 rfl _ _ _ w6 rfl rfl HR6.out ?_)
                go_roundw
                case rel => exact ⟨at_ + (j + 2), acc ++ [(p1, p2)], a6, c6, by omega, by omega, by have := HL.out; have := HAC.out; have := HAL3.out; omega, by go_num, by rw [HLL.out], (by rw [HLL.out]; exact HO6.out), (by rw [HL.out]; exact HE), HB7.out⟩
                case measure => simp [intOf]; omega
        · rw [hcutV_miss hc] at HCr
          have HE : Hid (R = ([], 0, hst (fullB b) er)) := by rw [Hid, hR.out, fldL_miss hc, plusH_err]
          have HC3 : Hid (Calls Tryz.prog 67 #[.slice a n c, .int .i64 (at_ : Nat)] wr fun e w' => e = .returned (.tuple #[.string ⟨#[]⟩, .int .i64 0, .int .i64 (hst (fullB b) er)]) ∧ w' = wr) := HCr
          have HPw : Hid _ := hPw
          clear hR hc HCr hroom hO hPw
          generalize hst (fullB b) er = st at *
          go_wp2_with fail
          refine HC3.out.mono ?_
          rintro e w3 ⟨rfl, rfl⟩
          go_wp2
          refine bodyPost_ret (v := .tuple #[.slice none 0 0, .int .i64 0, .int .i64 st]) (by simp [results, Tryz.results34, go_sem]) rfl ?_
          rw [HE.out]
          exact ⟨none, 0, rfl, OwnF.nil _ _, _, HPw.out, fun _ => rfl⟩
    · have HH : Hid (headL rqSt b = ([], 0, rqSt (tx ((b.take 2048).take i)))) := headL_bad hc hst
      have HT2 : Hid (Calls Tryz.prog 35 #[.string (tx ((b.take 2048).take i)), .pointer (some ⟨u.heap.size, 0, none⟩)] W fun e w' => e = .returned (.int .i64 (rqSt (tx ((b.take 2048).take i)))) ∧ PI u (.cells #[.string (rqP (tx ((b.take 2048).take i))).method, .string (rqP (tx ((b.take 2048).take i))).target, .int .i64 (rqP (tx ((b.take 2048).take i))).minor, .slice none 0 0, .slice none 0 0] 26) w' ∧ W.heap.size ≤ w'.heap.size) := HTell.out _ hz.out
      have HC2 : Hid (Calls Tryz.prog 67 #[.slice a n c, .int .i64 0] W fun e w' => e = .returned (.tuple #[.string (tx ((b.take 2048).take i)), .int .i64 ((i : Int) + 2), .int .i64 0]) ∧ w' = W) := by
        have k := HCUT.out W 0 HP.out.below (Nat.zero_le _)
        rw [hv] at k
        exact k
      have hii : i ≤ 2046 := by omega
      have hii2 : ¬ ((i : Int) + 2) = 0 := by omega
      have hii3 : (((i : Int) + 2) == 0) = false := by simpa using hii2
      generalize tx ((b.take 2048).take i) = first at *
      have hst2 : (rqSt first != 0) = true := by simpa using hst
      generalize headL rqSt b = R at *
      generalize rqSt first = stt at *
      clear hst hc hv HTell hltk hr0 hfl
      go_enter Tryz.func34, Tryz.ntmps34
      go_wp2_with fail
      refine HC2.out.mono ?_
      rintro e w1 ⟨rfl, rfl⟩
      go_wp2_with fail
      refine HT2.out.mono ?_
      rintro e w2 ⟨rfl, P2, hsz2⟩
      have HP2 : Hid _ := P2
      clear P2
      go_wp2
      refine bodyPost_ret (v := .tuple #[.slice none 0 0, .int .i64 0, .int .i64 stt]) (by simp [results, Tryz.results34, go_sem]) rfl ?_
      rw [HH.out]
      exact ⟨none, 0, rfl, OwnF.nil _ _, _, HP2.out, fun k => absurd rfl k⟩
  · have hv := hcutV_miss (b := b) (at_ := 0) (by rw [hr0]; exact hc)
    have HH : Hid (headL rqSt b = ([], 0, hst (fullB b) er)) := headL_miss hc
    have HC2 : Hid (Calls Tryz.prog 67 #[.slice a n c, .int .i64 0] W fun e w' => e = .returned (.tuple #[.string ⟨#[]⟩, .int .i64 0, .int .i64 (hst (fullB b) er)]) ∧ w' = W) := by
      have k := HCUT.out W 0 HP.out.below (Nat.zero_le _)
      rw [hv] at k
      exact k
    generalize headL rqSt b = R at *
    generalize hst (fullB b) er = stt at *
    clear hc hv HTell hltk hr0
    go_enter Tryz.func34, Tryz.ntmps34
    go_wp2_with fail
    refine HC2.out.mono ?_
    rintro e w1 ⟨rfl, rfl⟩
    go_wp2
    refine bodyPost_ret (v := .tuple #[.slice none 0 0, .int .i64 0, .int .i64 stt]) (by simp [results, Tryz.results34, go_sem]) rfl ?_
    rw [HH.out]
    exact ⟨none, 0, rfl, OwnF.nil _ _, _, HP.out, fun k => absurd rfl k⟩
end Go.Proofs.YtkdnckkdofoaoaaGreatDoor

/- Package http: the head of a request. -/
namespace Go.Proofs.YtkdnckkdofoaoaaGreatDoor
open Go.RowKit
set_option linter.unusedVariables false

theorem bd_big {fs : Fs} (h : FBd 1000 fs) : FBd 1048576 fs := h.mono (by decide)
theorem bd_huge {fs : Fs} (h : FBd 1000 fs) : FBd 140737488355328 fs := h.mono (by decide)

set_option maxRecDepth 100000 in
set_option maxHeartbeats 2000000 in
theorem rhosts_any (m t : ByteArray) (minor : Int) (fs : Fs) (a b : Option Addr) (c x y : Nat) (w : World) (hf : Fds w.heap.size w (.slice a fs.length c) fs) (hb : FBd 1000 fs) (hl : fs.length ≤ 1024) :
    Calls Tryz.prog 74 #[.agg #[.string m, .string t, .int .i64 minor, .slice a fs.length c, .slice b x y]] w fun e w' => e = .returned (.bool (hostsOk (getF fs tHost) minor)) ∧ Below w.heap.size w w' := by
  have hg0 := tblk_new w (.cells #[.string m, .string t, .int .i64 minor, .slice a fs.length c, .slice b x y] 26)
  have C0 : Below w.heap.size w (w.alloc (.cells #[.string m, .string t, .int .i64 minor, .slice a fs.length c, .slice b x y] 26)) := (Below.refl _ _).alloc (Nat.le_refl _) _
  have HG : Hid (Calls Tryz.prog 40 #[.slice a fs.length c, .string ⟨#[72, 111, 115, 116]⟩] (w.alloc (.cells #[.string m, .string t, .int .i64 minor, .slice a fs.length c, .slice b x y] 26)) fun e w' => ∃ ao cv, e = .returned (.slice ao (getF fs tHost).length cv) ∧ OwnT (w.heap.size + 1) w' (.slice ao (getF fs tHost).length cv) (getF fs tHost) ∧ Below w.heap.size w w' ∧ w'.heap[w.heap.size]? = some (.cells #[.string m, .string t, .int .i64 minor, .slice a fs.length c, .slice b x y] 26)) := by
    refine (get_any fs a c tHost _ (hf.over C0) (bd_huge hb) (by decide) (by omega)).mono ?_
    rintro e w' ⟨ao, cv, he, hO, hB⟩
    exact ⟨ao, cv, he, (by have k := hO; simpa using k), C0.trans (hB.mono C0.size), tblk_below hg0 hB⟩
  have hbd : Hid (TBd 1000 (getF fs tHost)) := getF_bd hb
  generalize getF fs tHost = hs at *
  clear hf hb hl hg0 C0
  match hs, HG, hbd with
  | [], HG, _ =>
    show Calls Tryz.prog 74 _ w fun e w' => e = .returned (.bool (!(minor == 1))) ∧ Below w.heap.size w w'
    have HG2 : Hid (Calls Tryz.prog 40 #[.slice a fs.length c, .string ⟨#[72, 111, 115, 116]⟩] (w.alloc (.cells #[.string m, .string t, .int .i64 minor, .slice a fs.length c, .slice b x y] 26)) fun e w' => ∃ ao cv, e = .returned (.slice ao 0 cv) ∧ Below w.heap.size w w' ∧ w'.cell? ⟨w.heap.size, 2, none⟩ = some (.int .i64 minor)) := by
      refine HG.out.mono ?_
      rintro e w' ⟨ao, cv, he, _, hB, hg⟩
      exact ⟨ao, cv, he, hB, tblk_cell hg rfl⟩
    clear HG
    go_enter Tryz.func74, Tryz.ntmps74
    go_wp2_with fail
    refine HG2.out.mono ?_
    rintro e w1 ⟨ao, cv, rfl, B1, q⟩
    go_wp2
    go_ret
    exact ⟨ret_bool (by simp [bne]), B1⟩
  | h :: r, HG, hbd =>
    show Calls Tryz.prog 74 _ w fun e w' => e = .returned (.bool (decide (r.length = 0) && (hostP h).2)) ∧ Below w.heap.size w w'
    have hsz := hbd.out h (List.mem_cons_self ..)
    have HH : Hid (∀ W, Calls Tryz.prog 41 #[.string h] W fun e w' => e = .returned (.tuple #[.string (hostP h).1, .bool (hostP h).2]) ∧ Below W.heap.size W w') := fun W => host_any h W (by unfold maxLen; omega)
    have HG2 : Hid (Calls Tryz.prog 40 #[.slice a fs.length c, .string ⟨#[72, 111, 115, 116]⟩] (w.alloc (.cells #[.string m, .string t, .int .i64 minor, .slice a fs.length c, .slice b x y] 26)) fun e w' => ∃ g off cv, e = .returned (.slice (some ⟨g, off, none⟩) (r.length + 1) cv) ∧ Below w.heap.size w w' ∧ w'.cell? ⟨g, off, none⟩ = some (.string h) ∧ r.length + 1 ≤ 9223372036854775807) := by
      refine HG.out.mono ?_
      rintro e w' ⟨ao, cv, he, hO, hB, hg⟩
      obtain ⟨a', c', e', _, hl1, hl2, h4⟩ := hO.txs
      obtain ⟨rfl, _, rfl⟩ := slice_inj e'
      obtain ⟨g, off, rfl, _, hc⟩ := h4 (Nat.succ_pos _)
      refine ⟨g, off, cv, he, hB, hc 0 (Nat.succ_pos _), ?_⟩
      have e2 : (h :: r).length = r.length + 1 := rfl
      unfold maxLen at hl2
      omega
    clear HG hbd hsz
    generalize hostP h = hp at *
    obtain ⟨h1, h2⟩ := hp
    by_cases h0 : r.length = 0
    · rw [h0] at HG2
      rw [decide_eq_true h0]
      clear h0
      go_enter Tryz.func74, Tryz.ntmps74
      go_wp2_with fail
      refine HG2.out.mono ?_
      rintro e w1 ⟨g, off, cv, rfl, B1, q, _⟩
      go_wp2_with fail
      refine (HH.out _).mono ?_
      rintro e w2 ⟨rfl, B2⟩
      have C2 := B1.trans (B2.mono B1.size)
      go_wp2
      go_ret
      exact ⟨by simp, C2⟩
    · rw [decide_eq_false h0]
      have h0' : ¬ (((r.length + 1 : Nat) : Int)) = 1 := by omega
      have h0'' : ((((r.length + 1 : Nat) : Int)) == 1) = false := by simpa using h0'
      have h1' : ¬ (((r.length + 1 : Nat) : Int)) = 0 := by omega
      have h1'' : ((((r.length + 1 : Nat) : Int)) == 0) = false := by simpa using h1'
      clear h0
      generalize r.length + 1 = n at *
      go_enter Tryz.func74, Tryz.ntmps74
      go_wp2_with fail
      refine HG2.out.mono ?_
      rintro e w1 ⟨g, off, cv, rfl, B1, q, hn63⟩
      have hn0 : 0 < n := by omega
      go_wp2_with fail
      refine (HH.out _).mono ?_
      rintro e w2 ⟨rfl, B2⟩
      have C2 := B1.trans (B2.mono B1.size)
      go_wp2
      go_ret
      exact ⟨rfl, C2⟩

set_option maxRecDepth 100000 in
set_option maxHeartbeats 2000000 in
theorem hstatus_any (m t : ByteArray) (minor : Int) (fs : Fs) (a b : Option Addr) (c x y : Nat) (w : World) (hf : Fds w.heap.size w (.slice a fs.length c) fs) (hb : FBd 1000 fs) (hl : fs.length ≤ 1024) (hM : MaxL w) :
    Calls Tryz.prog 37 #[.agg #[.string m, .string t, .int .i64 minor, .slice a fs.length c, .slice b x y]] w fun e w' => e = .returned (.int .i64 (headSt fs minor)) ∧ Below w.heap.size w w' := by
  have hg0 := tblk_new w (.cells #[.string m, .string t, .int .i64 minor, .slice a fs.length c, .slice b x y] 26)
  have C0 : Below w.heap.size w (w.alloc (.cells #[.string m, .string t, .int .i64 minor, .slice a fs.length c, .slice b x y] 26)) := (Below.refl _ _).alloc (Nat.le_refl _) _
  have HR : Hid (Calls Tryz.prog 74 #[.agg #[.string m, .string t, .int .i64 minor, .slice a fs.length c, .slice b x y]] (w.alloc (.cells #[.string m, .string t, .int .i64 minor, .slice a fs.length c, .slice b x y] 26)) fun e w' => e = .returned (.bool (hostsOk (getF fs tHost) minor)) ∧ Below w.heap.size w w' ∧ w'.cell? ⟨w.heap.size, 2, none⟩ = some (.int .i64 minor) ∧ w'.cell? ⟨w.heap.size, 3, none⟩ = some (.slice a fs.length c)) := by
    refine (rhosts_any m t minor fs a b c x y _ (hf.over C0) hb hl).mono ?_
    rintro e w' ⟨he, hB⟩
    have hg := tblk_below hg0 hB
    exact ⟨he, C0.trans (hB.mono C0.size), tblk_cell hg rfl, tblk_cell hg rfl⟩
  have HF : Hid (∀ W, Below w.heap.size w W → Calls Tryz.prog 29 #[.slice a fs.length c, .int .i64 minor] W fun e w' => e = .returned (.tuple #[.int .i64 (reqF fs minor).1, .bool (reqF fs minor).2.1, .int .i64 (reqF fs minor).2.2]) ∧ Below W.heap.size W w') := fun W B => request_any fs a c minor W (hf.over B) (bd_big hb) hl (hM.below B)
  unfold headSt
  have c0 := tblk_cell (i := 0) hg0 rfl
  have c1 := tblk_cell (i := 1) hg0 rfl
  have c2 := tblk_cell (i := 2) hg0 rfl
  have c3 := tblk_cell (i := 3) hg0 rfl
  have c4 := tblk_cell (i := 4) hg0 rfl
  clear hf hb hl hM hg0 C0
  generalize hostsOk (getF fs tHost) minor = ok at *
  generalize reqF fs minor = F at *
  obtain ⟨F1, F2, F3⟩ := F
  cases ok
  · rw [if_neg (by decide)]
    go_enter Tryz.func37, Tryz.ntmps37
    go_wp2_with fail
    refine HR.out.mono ?_
    rintro e w1 ⟨rfl, B1, q2, q3⟩
    go_wp2
    go_ret
    exact ⟨rfl, B1⟩
  · rw [if_pos rfl]
    go_enter Tryz.func37, Tryz.ntmps37
    go_wp2_with fail
    refine HR.out.mono ?_
    rintro e w1 ⟨rfl, B1, q2, q3⟩
    go_wp2_with fail
    refine (HF.out _ B1).mono ?_
    rintro e w2 ⟨rfl, B2⟩
    have C2 := B1.trans (B2.mono B1.size)
    go_wp2
    go_ret
    exact ⟨rfl, C2⟩
end Go.Proofs.YtkdnckkdofoaoaaGreatDoor

/- Package http: Head. -/
namespace Go.Proofs.YtkdnckkdofoaoaaGreatDoor
open Go.RowKit
set_option linter.unusedVariables false

theorem OwnF.away {B : Nat} {w w' : World} {v : Value} {fs : Fs} (h : OwnF B w v fs) (hk : ∀ k, B ≤ k → w'.heap[k]? = w.heap[k]?) : OwnF B w' v fs := by
  obtain ⟨h1, h2 | ⟨g, cap, cur, hv, hg, hh, r⟩⟩ := h
  · exact ⟨h1, .inl h2⟩
  · exact ⟨h1, .inr ⟨g, cap, cur, hv, hg, (hk g hg).trans hh, r⟩⟩
theorem set_away {w : World} {b i : Nat} {v : Value} {k : Nat} (h : ¬ k = b) : (w.setCell ⟨b, i, none⟩ v).heap[k]? = w.heap[k]? := by
  simp only [World.setCell, Array.getElem?_modify]
  rw [if_neg (fun e => h e.symm)]
theorem five_away {w : World} {b : Nat} {v0 v1 v2 v3 v4 : Value} {k : Nat} (h : ¬ k = b) : (five w b v0 v1 v2 v3 v4).heap[k]? = w.heap[k]? := by
  unfold five
  rw [set_away h, set_away h, set_away h, set_away h, set_away h]
theorem set_size (w : World) (p : Addr) (v : Value) : (w.setCell p v).heap.size = w.heap.size := by simp [World.setCell]
theorem five_size (w : World) (b : Nat) (v0 v1 v2 v3 v4 : Value) : (five w b v0 v1 v2 v3 v4).heap.size = w.heap.size := by
  unfold five
  rw [set_size, set_size, set_size, set_size, set_size]
theorem field3 {w : World} {b : Nat} {y0 y1 y2 y3 y4 v : Value} {t : TypeId} (h : w.heap[b]? = some (.cells #[y0, y1, y2, y3, y4] t)) : (w.setCell ⟨b, 3, none⟩ v).heap[b]? = some (.cells #[y0, y1, y2, v, y4] t) := by
  simp [World.setCell, Array.getElem?_modify, h]
theorem field4 {w : World} {b : Nat} {y0 y1 y2 y3 y4 v : Value} {t : TypeId} (h : w.heap[b]? = some (.cells #[y0, y1, y2, y3, y4] t)) : (w.setCell ⟨b, 4, none⟩ v).heap[b]? = some (.cells #[y0, y1, y2, y3, v] t) := by
  simp [World.setCell, Array.getElem?_modify, h]
/-- A head's value. -/
def hdV (h : Hd) (fa : Option Addr) (fc : Nat) : Value := .tuple #[.agg #[.string h.m, .string h.t, .int .i64 h.minor, .slice fa h.fs.length fc, .slice none 0 0], .int .i64 (h.n : Nat), .int .i64 h.st]
def HeadR (w : World) (h : Hd) (e : Ending) (w' : World) : Prop := ∃ fa fc, e = .returned (hdV h fa fc) ∧ OwnF w.heap.size w' (.slice fa h.fs.length fc) h.fs ∧ Below w.heap.size w w'

set_option maxRecDepth 100000 in
set_option maxHeartbeats 4000000 in
theorem head_any (b : List UInt8) (kb c : Nat) (a : Option Addr) (w : World) (hs : Src w kb (.slice a b.length c) b) (hk : 0 < b.length → kb < w.heap.size) (hM : MaxL w) :
    Calls Tryz.prog 10 #[.slice a b.length c] w (HeadR w (headQ b)) := by
  have U0 : Below w.heap.size w (w.alloc (.cells #[.string ⟨#[]⟩, .string ⟨#[]⟩, .int .i64 0, .slice none 0 0, .slice none 0 0] 26)) := (Below.refl _ _).alloc (Nat.le_refl _) _
  have HRD : Hid (Calls Tryz.prog 34 #[.slice a b.length c, .func (.func 35) #[] #[.pointer (some ⟨w.heap.size + 1, 0, none⟩)]] ((w.alloc (.cells #[.string ⟨#[]⟩, .string ⟨#[]⟩, .int .i64 0, .slice none 0 0, .slice none 0 0] 26)).alloc (.cells #[.string ⟨#[]⟩, .string ⟨#[]⟩, .int .i64 0, .slice none 0 0, .slice none 0 0] 26)) fun e w' => ∃ fa fc, e = .returned (.tuple #[.slice fa (headL rqSt b).1.length fc, .int .i64 ((headL rqSt b).2.1 : Nat), .int .i64 (headL rqSt b).2.2]) ∧ OwnF (w.heap.size + 2) w' (.slice fa (headL rqSt b).1.length fc) (headL rqSt b).1 ∧ w.heap.size + 2 ≤ w'.heap.size ∧ Below w.heap.size w w' ∧ w'.heap[w.heap.size]? = some (.cells #[.string ⟨#[]⟩, .string ⟨#[]⟩, .int .i64 0, .slice none 0 0, .slice none 0 0] 26) ∧ (¬ (headL rqSt b).2.1 = 0 → w'.heap[w.heap.size + 1]? = some (.cells #[.string (rqP (firstL b)).method, .string (rqP (firstL b)).target, .int .i64 (rqP (firstL b)).minor, .slice none 0 0, .slice none 0 0] 26))) := by
    have k := readA_any b kb c a (.string ⟨#[]⟩) (.string ⟨#[]⟩) (.int .i64 0) (.slice none 0 0) (.slice none 0 0) (w.alloc (.cells #[.string ⟨#[]⟩, .string ⟨#[]⟩, .int .i64 0, .slice none 0 0, .slice none 0 0] 26)) ((w.alloc (.cells #[.string ⟨#[]⟩, .string ⟨#[]⟩, .int .i64 0, .slice none 0 0, .slice none 0 0] 26)).alloc (.cells #[.string ⟨#[]⟩, .string ⟨#[]⟩, .int .i64 0, .slice none 0 0, .slice none 0 0] 26)) (PI.new _ _) (hs.keep hk U0) (fun q => Nat.lt_of_lt_of_le (hk q) U0.size) (hM.below U0)
    have e1 : (w.alloc (.cells #[.string ⟨#[]⟩, .string ⟨#[]⟩, .int .i64 0, .slice none 0 0, .slice none 0 0] 26)).heap.size = w.heap.size + 1 := by simp
    have e2 : ((w.alloc (.cells #[.string ⟨#[]⟩, .string ⟨#[]⟩, .int .i64 0, .slice none 0 0, .slice none 0 0] 26)).alloc (.cells #[.string ⟨#[]⟩, .string ⟨#[]⟩, .int .i64 0, .slice none 0 0, .slice none 0 0] 26)).heap.size = w.heap.size + 2 := by simp
    rw [e1, e2] at k
    refine k.mono ?_
    rintro e w' ⟨fa, fc, he, hO, o, hP, ho⟩
    have hb := hP.below
    have hw := hP.own
    rw [e1] at hb hw
    refine ⟨fa, fc, he, hO, ?_, U0.trans (hb.mono (by simp)), ?_, fun q => ?_⟩
    · have q := heap_lt hw; omega
    · rw [hb.block w.heap.size (by simp), tblk_new]
    · rw [hw, ho q]
  have HOK : Hid (HdOk b.length (headQ b)) := headQ_ok b
  have HLO : Hid (FlOk 40 (min 2048 b.length) (headL rqSt b)) := headL_ok _ _
  have HS : Hid (∀ (W : World) (m t : ByteArray) (mi : Int) (fa : Option Addr) (fc : Nat), Below w.heap.size w W → Fds W.heap.size W (.slice fa (headL rqSt b).1.length fc) (headL rqSt b).1 → Calls Tryz.prog 37 #[.agg #[.string m, .string t, .int .i64 mi, .slice fa (headL rqSt b).1.length fc, .slice none 0 0]] W fun e w' => e = .returned (.int .i64 (headSt (headL rqSt b).1 mi)) ∧ Below W.heap.size W w') := fun W m t mi fa fc B F => hstatus_any m t mi _ fa none fc 0 0 W F HLO.out.bd (by have := HLO.out.len; omega) (hM.below B)
  clear hs hk hM U0
  have hQ : headQ b = if (headL rqSt b).2.1 = 0 then hdNo (headL rqSt b).2.2 else if headSt (headL rqSt b).1 (rqP (firstL b)).minor = 0 then ⟨(rqP (firstL b)).method, (rqP (firstL b)).target, (rqP (firstL b)).minor, (headL rqSt b).1, (headL rqSt b).2.1, 0⟩ else hdNo (headSt (headL rqSt b).1 (rqP (firstL b)).minor) := rfl
  have HQ : Hid _ := hQ
  clear hQ HLO
  generalize headQ b = Q at *
  generalize headL rqSt b = H at *
  obtain ⟨fs, n, st⟩ := H
  simp only at HRD HQ HS
  have hnb : Hid (n = 0 ∨ ¬ n = 0) := Classical.em _
  generalize (rqP (firstL b)).method = m at *
  generalize (rqP (firstL b)).target = t at *
  generalize (rqP (firstL b)).minor = mi at *
  generalize b.length = bl at *
  by_cases h0 : n = 0
  · subst h0
    have HE : Hid (Q = hdNo st) := by rw [Hid, HQ.out, if_pos rfl]
    clear HQ HOK hnb
    go_enter Tryz.func10, Tryz.ntmps10
    go_wp2_with fail
    refine HRD.out.mono ?_
    rintro e w1 ⟨fa, fc, rfl, hO, hsz, B1, hg, _⟩
    have HB1 : Hid _ := five_below (.string ⟨#[]⟩) (.string ⟨#[]⟩) (.int .i64 0) (.slice none 0 0) (.slice none 0 0) B1 (Nat.le_refl _)
    unfold five at HB1
    clear HRD hO hsz B1
    have HW := five_cells hg (.string ⟨#[]⟩) (.string ⟨#[]⟩) (.int .i64 0) (.slice none 0 0) (.slice none 0 0)
    have a0 := tblk_cell (i := 0) hg rfl
    have z0 := lblk_z (i := 0) hg
    have a1 := tblk_cell (i := 1) hg rfl
    have z1 := lblk_z (i := 1) hg
    have a2 := tblk_cell (i := 2) hg rfl
    have z2 := lblk_z (i := 2) hg
    have a3 := tblk_cell (i := 3) hg rfl
    have z3 := lblk_z (i := 3) hg
    have a4 := tblk_cell (i := 4) hg rfl
    have z4 := lblk_z (i := 4) hg
    have r0 := tblk_cell (i := 0) HW rfl
    have r1 := tblk_cell (i := 1) HW rfl
    have r2 := tblk_cell (i := 2) HW rfl
    have r3 := tblk_cell (i := 3) HW rfl
    have r4 := tblk_cell (i := 4) HW rfl
    unfold five at r0 r1 r2 r3 r4
    clear HW hg
    go_wp2
    refine bodyPost_ret (v := .tuple #[.agg #[.string ⟨#[]⟩, .string ⟨#[]⟩, .int .i64 0, .slice none 0 0, .slice none 0 0], .int .i64 0, .int .i64 st]) (by simp [results, Tryz.results10, go_sem, r0, r1, r2, r3, r4]) rfl ?_
    rw [HE.out]
    exact ⟨none, 0, rfl, OwnF.nil _ _, HB1.out⟩
  · have hn' : ¬ ((n : Nat) : Int) = 0 := by omega
    have hn'' : (((n : Nat) : Int) == 0) = false := by simpa using hn'
    have HS0 : Hid (∀ (W : World) (m t : ByteArray) (mi : Int) (fa : Option Addr) (fc : Nat), Below w.heap.size w W → Fds W.heap.size W (.slice fa fs.length fc) fs → Calls Tryz.prog 37 #[.agg #[.string m, .string t, .int .i64 mi, .slice fa fs.length fc, .slice none 0 0]] W fun e w' => e = .returned (.int .i64 (headSt fs mi)) ∧ Below W.heap.size W w') := HS.out
    clear HS
    by_cases hst : headSt fs mi = 0
    · have HE : Hid (Q = ⟨m, t, mi, fs, n, 0⟩) := by rw [Hid, HQ.out, if_neg h0, if_pos hst]
      have HS1 : Hid (∀ (W : World) (m t : ByteArray) (fa : Option Addr) (fc : Nat), Below w.heap.size w W → Fds W.heap.size W (.slice fa fs.length fc) fs → Calls Tryz.prog 37 #[.agg #[.string m, .string t, .int .i64 mi, .slice fa fs.length fc, .slice none 0 0]] W fun e w' => e = .returned (.int .i64 0) ∧ Below W.heap.size W w') := fun W m t fa fc B F => by have k := HS0.out W m t mi fa fc B F; rw [hst] at k; exact k
      clear HQ HOK hnb hst HS0
      go_enter Tryz.func10, Tryz.ntmps10
      go_wp2_with fail
      refine HRD.out.mono ?_
      rintro e w1 ⟨fa, fc, rfl, hO, hsz, B1, hg, hr⟩
      have hr1 := hr h0
      have hr2 := field3 (v := .slice fa fs.length fc) hr1
      have hg2 : (w1.setCell ⟨w.heap.size + 1, 3, none⟩ (.slice fa fs.length fc)).heap[w.heap.size]? = some (.cells #[.string ⟨#[]⟩, .string ⟨#[]⟩, .int .i64 0, .slice none 0 0, .slice none 0 0] 26) := (set_away (by omega)).trans hg
      have hO2 : OwnF (w.heap.size + 2) (w1.setCell ⟨w.heap.size + 1, 3, none⟩ (.slice fa fs.length fc)) (.slice fa fs.length fc) fs := hO.away (fun k hk => set_away (by omega))
      have B2 : Below w.heap.size w (w1.setCell ⟨w.heap.size + 1, 3, none⟩ (.slice fa fs.length fc)) := B1.setCell (p := ⟨w.heap.size + 1, 3, none⟩) (Nat.le_succ _) _
      have y3 := tblk_cell (i := 3) hr1 rfl
      have x3 := lblk_z (i := 3) hr1
      have d0 := tblk_cell (i := 0) hr2 rfl
      have d1 := tblk_cell (i := 1) hr2 rfl
      have d2 := tblk_cell (i := 2) hr2 rfl
      have d3 := tblk_cell (i := 3) hr2 rfl
      have d4 := tblk_cell (i := 4) hr2 rfl
      clear hr1 hg hO B1 HRD hr
      go_wp2_with fail
      clear y3 x3 d0 d1 d2 d3 d4
      generalize w1.setCell ⟨w.heap.size + 1, 3, none⟩ (.slice fa fs.length fc) = w2 at *
      refine (HS1.out w2 m t fa fc B2 hO2.fds).mono ?_
      rintro e w3 ⟨rfl, B3⟩
      have C3 := B2.trans (B3.mono B2.size)
      have hg3 := tblk_below hg2 B3
      have hr3 := tblk_below hr2 B3
      have O3 := hO2.keep B3
      have HB1 : Hid _ := five_below (.string m) (.string t) (.int .i64 mi) (.slice fa fs.length fc) (.slice none 0 0) C3 (Nat.le_refl _)
      have HO3 : Hid (OwnF w.heap.size (five w3 w.heap.size (.string m) (.string t) (.int .i64 mi) (.slice fa fs.length fc) (.slice none 0 0)) (.slice fa fs.length fc) fs) := (O3.away (fun k hk => five_away (by omega))).mono (by omega)
      unfold five at HB1 HO3
      have b0 := tblk_cell (i := 0) hr3 rfl
      have b1 := tblk_cell (i := 1) hr3 rfl
      have b2 := tblk_cell (i := 2) hr3 rfl
      have b3 := tblk_cell (i := 3) hr3 rfl
      have b4 := tblk_cell (i := 4) hr3 rfl
      clear hr3 hg2 hr2 hO2 B2 B3 C3 O3
      have HW := five_cells hg3 (.string m) (.string t) (.int .i64 mi) (.slice fa fs.length fc) (.slice none 0 0)
      have a0 := tblk_cell (i := 0) hg3 rfl
      have z0 := lblk_z (i := 0) hg3
      have a1 := tblk_cell (i := 1) hg3 rfl
      have z1 := lblk_z (i := 1) hg3
      have a2 := tblk_cell (i := 2) hg3 rfl
      have z2 := lblk_z (i := 2) hg3
      have a3 := tblk_cell (i := 3) hg3 rfl
      have z3 := lblk_z (i := 3) hg3
      have a4 := tblk_cell (i := 4) hg3 rfl
      have z4 := lblk_z (i := 4) hg3
      have r0 := tblk_cell (i := 0) HW rfl
      have r1 := tblk_cell (i := 1) HW rfl
      have r2 := tblk_cell (i := 2) HW rfl
      have r3 := tblk_cell (i := 3) HW rfl
      have r4 := tblk_cell (i := 4) HW rfl
      unfold five at r0 r1 r2 r3 r4
      clear HW hg3
      go_wp2
      refine bodyPost_ret (v := .tuple #[.agg #[.string m, .string t, .int .i64 mi, .slice fa fs.length fc, .slice none 0 0], .int .i64 (n : Nat), .int .i64 0]) (by simp [results, Tryz.results10, go_sem, r0, r1, r2, r3, r4]) rfl ?_
      rw [HE.out]
      exact ⟨fa, fc, rfl, HO3.out, HB1.out⟩
    · have HE : Hid (Q = hdNo (headSt fs mi)) := by rw [Hid, HQ.out, if_neg h0, if_neg hst]
      have hst' : (headSt fs mi != 0) = true := by simpa using hst
      have HS1 : Hid (∀ (W : World) (m t : ByteArray) (fa : Option Addr) (fc : Nat), Below w.heap.size w W → Fds W.heap.size W (.slice fa fs.length fc) fs → Calls Tryz.prog 37 #[.agg #[.string m, .string t, .int .i64 mi, .slice fa fs.length fc, .slice none 0 0]] W fun e w' => e = .returned (.int .i64 (headSt fs mi)) ∧ Below W.heap.size W w') := fun W m t fa fc B F => HS0.out W m t mi fa fc B F
      clear HS0
      generalize headSt fs mi = sst at *
      clear HQ HOK hnb hst
      go_enter Tryz.func10, Tryz.ntmps10
      go_wp2_with fail
      refine HRD.out.mono ?_
      rintro e w1 ⟨fa, fc, rfl, hO, hsz, B1, hg, hr⟩
      have hr1 := hr h0
      have hr2 := field3 (v := .slice fa fs.length fc) hr1
      have hg2 : (w1.setCell ⟨w.heap.size + 1, 3, none⟩ (.slice fa fs.length fc)).heap[w.heap.size]? = some (.cells #[.string ⟨#[]⟩, .string ⟨#[]⟩, .int .i64 0, .slice none 0 0, .slice none 0 0] 26) := (set_away (by omega)).trans hg
      have hO2 : OwnF (w.heap.size + 2) (w1.setCell ⟨w.heap.size + 1, 3, none⟩ (.slice fa fs.length fc)) (.slice fa fs.length fc) fs := hO.away (fun k hk => set_away (by omega))
      have B2 : Below w.heap.size w (w1.setCell ⟨w.heap.size + 1, 3, none⟩ (.slice fa fs.length fc)) := B1.setCell (p := ⟨w.heap.size + 1, 3, none⟩) (Nat.le_succ _) _
      have y3 := tblk_cell (i := 3) hr1 rfl
      have x3 := lblk_z (i := 3) hr1
      have d0 := tblk_cell (i := 0) hr2 rfl
      have d1 := tblk_cell (i := 1) hr2 rfl
      have d2 := tblk_cell (i := 2) hr2 rfl
      have d3 := tblk_cell (i := 3) hr2 rfl
      have d4 := tblk_cell (i := 4) hr2 rfl
      clear hr1 hg hO B1 HRD hr
      go_wp2_with fail
      clear y3 x3 d0 d1 d2 d3 d4
      generalize w1.setCell ⟨w.heap.size + 1, 3, none⟩ (.slice fa fs.length fc) = w2 at *
      refine (HS1.out w2 m t fa fc B2 hO2.fds).mono ?_
      rintro e w3 ⟨rfl, B3⟩
      have C3 := B2.trans (B3.mono B2.size)
      have hg3 := tblk_below hg2 B3
      have HB1 : Hid _ := five_below (.string ⟨#[]⟩) (.string ⟨#[]⟩) (.int .i64 0) (.slice none 0 0) (.slice none 0 0) C3 (Nat.le_refl _)
      unfold five at HB1
      clear hg2 hr2 hO2 B2 B3 C3
      have HW := five_cells hg3 (.string ⟨#[]⟩) (.string ⟨#[]⟩) (.int .i64 0) (.slice none 0 0) (.slice none 0 0)
      have a0 := tblk_cell (i := 0) hg3 rfl
      have z0 := lblk_z (i := 0) hg3
      have a1 := tblk_cell (i := 1) hg3 rfl
      have z1 := lblk_z (i := 1) hg3
      have a2 := tblk_cell (i := 2) hg3 rfl
      have z2 := lblk_z (i := 2) hg3
      have a3 := tblk_cell (i := 3) hg3 rfl
      have z3 := lblk_z (i := 3) hg3
      have a4 := tblk_cell (i := 4) hg3 rfl
      have z4 := lblk_z (i := 4) hg3
      have r0 := tblk_cell (i := 0) HW rfl
      have r1 := tblk_cell (i := 1) HW rfl
      have r2 := tblk_cell (i := 2) HW rfl
      have r3 := tblk_cell (i := 3) HW rfl
      have r4 := tblk_cell (i := 4) HW rfl
      unfold five at r0 r1 r2 r3 r4
      clear HW hg3
      go_wp2
      refine bodyPost_ret (v := .tuple #[.agg #[.string ⟨#[]⟩, .string ⟨#[]⟩, .int .i64 0, .slice none 0 0, .slice none 0 0], .int .i64 0, .int .i64 sst]) (by simp [results, Tryz.results10, go_sem, r0, r1, r2, r3, r4]) rfl ?_
      rw [HE.out]
      exact ⟨none, 0, rfl, OwnF.nil _ _, HB1.out⟩
end Go.Proofs.YtkdnckkdofoaoaaGreatDoor

/- Package http: the body behind a head. -/
namespace Go.Proofs.YtkdnckkdofoaoaaGreatDoor
open Go.RowKit
set_option linter.unusedVariables false

theorem OwnF.kept {B : Nat} {w w' : World} {v : Value} {fs : Fs} (h : OwnF B w v fs) (hk : ∀ k, B ≤ k → k < w.heap.size → w'.heap[k]? = w.heap[k]?) : OwnF B w' v fs := by
  obtain ⟨h1, h2 | ⟨g, cap, cur, hv, hg, hh, r⟩⟩ := h
  · exact ⟨h1, .inl h2⟩
  · exact ⟨h1, .inr ⟨g, cap, cur, hv, hg, (hk g hg (heap_lt hh)).trans hh, r⟩⟩
theorem Own.kept {B : Nat} {w w' : World} {v : Value} {X : List UInt8} (h : Own B w v X) (hk : ∀ k, B ≤ k → k < w.heap.size → w'.heap[k]? = w.heap[k]?) : Own B w' v X := by
  obtain ⟨h1, h2 | ⟨g, cap, cur, hv, hg, hh, r⟩⟩ := h
  · exact ⟨h1, .inl h2⟩
  · exact ⟨h1, .inr ⟨g, cap, cur, hv, hg, (hk g hg (heap_lt hh)).trans hh, r⟩⟩

theorem decL_le : ∀ (f m : Nat) (l : List UInt8), (decL f m l).2.1 ≤ l.length := by
  intro f
  induction f with
  | zero => intro m l; exact Nat.zero_le _
  | succ f ih =>
    intro m l
    rcases oneP_cases m l with ⟨e, h⟩ | ⟨i, h, hl, _⟩ | ⟨i, k, h, hk, hm, hl, _⟩
    · rw [decL_miss h]; exact Nat.zero_le _
    · rw [decL_last h (by omega)]
      have q := trailL_le 40 (l.drop (i + 2))
      rw [List.length_drop] at q
      unfold plusD
      split
      · exact Nat.zero_le _
      · simp only; omega
    · rw [decL_next h (by omega) (by omega)]
      have q := ih (m - k) (l.drop (i + 2 + k + 2))
      rw [List.length_drop] at q
      unfold plusD
      split
      · exact Nat.zero_le _
      · simp only; omega
theorem decR_le (m : Nat) (l : List UInt8) : (decR m l).2.1 ≤ l.length := decL_le _ _ _

set_option maxRecDepth 100000 in
set_option maxHeartbeats 2000000 in
theorem bclone_any (b : List UInt8) (kb n c : Nat) (a : Option Addr) (w : World) (hs : Src w kb (.slice a n c) b) (hk : 0 < b.length → kb < w.heap.size) (hlen : b.length ≤ 1048576) :
    Calls Tryz.prog 63 #[.slice a n c] w fun e w' => ∃ v', e = .returned v' ∧ Own w.heap.size w' v' b ∧ Below w.heap.size w w' := by
  have hl := hs.len
  cases a with
  | none =>
    have hb : b = [] := by
      obtain ⟨a', c', e, h1, h2, h3⟩ := hs
      rcases Nat.eq_zero_or_pos b.length with q | q
      · exact List.eq_nil_of_length_eq_zero q
      · obtain ⟨off, q1, _⟩ := h3 q
        obtain ⟨e1, _, _⟩ := slice_inj e
        rw [← e1] at q1
        cases q1
    subst hb
    clear hs hk hl hlen
    have hnil : ∀ W : World, (binOp .eql 22 (.slice none n c) (.slice none 0 0)).run Tryz.prog W = .ok (.bool true) W := fun W => Lib.run_eql_slice_nil W 22 5 none n c 0 0 Tryz.underlying22
    go_enter Tryz.func63, Tryz.ntmps63
    go_wp2
    go_ret
    exact ⟨_, rfl, Own.nil _ _, Below.refl _ _⟩
  | some ad =>
    have U0 : Below w.heap.size w (w.alloc (.cells #[] 5)) := (Below.refl _ _).alloc (Nat.le_refl _) _
    obtain ⟨v2, w2, r2, O2, B2⟩ := own_append (Own.empty w.heap.size w (Nat.le_refl _)) (hs.keep hk U0) (fun e => by cases e) (by simp only [List.length_nil]; omega) (by simp)
    have HR : Hid _ := r2
    have HO : Hid (Own w.heap.size w2 v2 ([] ++ b)) := O2
    have HB : Hid (Below w.heap.size w w2) := U0.trans B2
    clear hs hk hl hlen U0 r2 O2 B2
    obtain ⟨bk, off, sp⟩ := ad
    have hnil : ∀ W : World, (binOp .eql 22 (.slice (some ⟨bk, off, sp⟩) n c) (.slice none 0 0)).run Tryz.prog W = .ok (.bool false) W := fun W => Lib.run_eql_slice_nil W 22 5 _ n c 0 0 Tryz.underlying22
    go_enter Tryz.func63, Tryz.ntmps63
    go_wp2_with (at_builtin; refine wpList_append_run2 rfl _ _ 22 22 rfl _ _ _ w2 rfl rfl HR.out ?_)
    go_ret
    exact ⟨_, rfl, HO.out, HB.out⟩

theorem bstat_any (e : Int) (w : World) : Calls Tryz.prog 31 #[.int .i64 e] w fun r w' => r = .returned (.int .i64 (bodySt e)) ∧ w' = w := by
  unfold bodySt
  by_cases h0 : e = 0
  · subst h0
    rw [if_pos rfl]
    go_enter Tryz.func31, Tryz.ntmps31
    go_wp2
    go_ret
    exact ⟨rfl, rfl⟩
  · have h0' : (e == 0) = false := by simpa using h0
    rw [if_neg h0]
    by_cases h2 : e = 2
    · subst h2
      rw [if_pos rfl]
      go_enter Tryz.func31, Tryz.ntmps31
      go_wp2
      go_ret
      exact ⟨rfl, rfl⟩
    · have h2' : (e == 2) = false := by simpa using h2
      rw [if_neg h2]
      go_enter Tryz.func31, Tryz.ntmps31
      go_wp2
      go_ret
      exact ⟨rfl, rfl⟩

set_option maxRecDepth 100000 in
set_option maxHeartbeats 4000000 in
theorem body_any (b : List UInt8) (kb c : Nat) (a : Option Addr) (head sz : Nat) (coded : Bool) (w : World) (hs : Src w kb (.slice a b.length c) b) (hk : 0 < b.length → kb < w.heap.size) (hM : MaxL w) (hh : head ≤ b.length) (hlen : b.length ≤ 1048576) (hsz : sz ≤ 1048576) :
    Calls Tryz.prog 30 #[.slice a b.length c, .int .i64 (head : Nat), .int .i64 (sz : Nat), .bool coded] w (DecQ w (bodyQ b head (sz : Nat) coded)) := by
  have hl := hs.len
  have hl3 : c ≤ maxLen := hl.2.2
  have HK : Hid (0 < (b.drop head).length → kb < w.heap.size) := fun q => hk (by rw [List.length_drop] at q; omega)
  have HC : Hid (∀ a' : Option Addr, (head < c → a' = a.map (fun x => x.add head)) → Src w kb (.slice a' (b.length - head) (c - head)) (b.drop head)) := fun a' ha' => hs.cut hh ha'
  have HLD : Hid ((b.drop head).length = b.length - head) := List.length_drop
  have hnc : b.length ≤ c := by omega
  unfold maxLen at hl3
  have HQ : Hid (bodyQ b head (sz : Nat) coded = if coded = true then (if (decR 4096 (b.drop head)).2.1 = 0 then ([], 0, (decR 4096 (b.drop head)).2.2) else ((decR 4096 (b.drop head)).1, head + (decR 4096 (b.drop head)).2.1, 0)) else if ((b.length - head : Nat) : Int) < ((sz : Nat) : Int) then ([], 0, 0) else ((b.drop head).take sz, head + sz, 0)) := rfl
  have HM : Hid (MaxL w) := hM
  have HOK : Hid (okR (decR 4096 (b.drop head))) := decL_ok _ _ _
  have HLE : Hid ((decR 4096 (b.drop head)).2.1 ≤ b.length - head) := by
    rw [Hid, ← HLD.out]; exact decR_le _ _
  clear hs hk hM hl
  generalize bodyQ b head (sz : Nat) coded = Q at *
  cases coded
  · rw [if_neg (by decide)] at HQ
    by_cases hlt : ((b.length - head : Nat) : Int) < ((sz : Nat) : Int)
    · rw [if_pos hlt] at HQ
      generalize b.length = n at *
      clear HOK HLE
      go_enter Tryz.func30, Tryz.ntmps30
      go_wp2
      all_goals
        refine bodyPost_ret (v := .tuple #[.slice none 0 0, .int .i64 0, .int .i64 0]) (by simp [results, Tryz.results30, go_sem]) rfl ?_
        rw [HQ.out]
        exact decq_no (Below.refl _ _)
    · rw [if_neg hlt] at HQ
      have hle : sz ≤ b.length - head := by omega
      have HCL : Hid (∀ (a' : Option Addr) (c' : Nat), Src w kb (.slice a' sz c') ((b.drop head).take sz) → Calls Tryz.prog 63 #[.slice a' sz c'] w fun e w' => ∃ v', e = .returned v' ∧ Own w.heap.size w' v' ((b.drop head).take sz) ∧ Below w.heap.size w w') := fun a' c' h =>
        bclone_any _ kb _ _ a' w h (fun q => HK.out (by rw [List.length_take] at q; omega)) (by rw [List.length_take, HLD.out]; omega)
      have hcell : Hid (∀ a' : Option Addr, (head < c → a' = a.map (fun x => x.add head)) → Src w kb (.slice a' sz (c - head)) ((b.drop head).take sz)) := fun a' ha' => (HC.out a' ha').take (by rw [HLD.out]; exact hle)
      have hsum : IntKind.i64.wrap ((head : Int) + (sz : Int)) = ((head + sz : Nat) : Int) := by simp [IntKind.wrap, IntKind.bits, IntKind.signed]; omega
      generalize (b.drop head).take sz = X at *
      generalize b.length = n at *
      clear HOK HLE HC HK HLD HM
      go_enter Tryz.func30, Tryz.ntmps30
      go_wp2_with fail
      all_goals
        refine (HCL.out _ _ (by first | (have hx := hcell.out a (fun h => by omega); rw [show c - head = 0 by omega] at hx; exact hx) | exact hcell.out _ (fun _ => rfl) | exact hcell.out _ (fun h => if_neg (by omega)) | exact hcell.out _ (fun h => by omega))).mono ?_
        rintro e w1 ⟨v1, rfl, O1, B1⟩
        obtain ⟨a1, c1, rfl, _⟩ := O1.form
        have HO : Hid (Own w.heap.size w1 (.slice a1 X.length c1) X) := O1
        clear O1
        generalize X.length = xl at *
        go_wp2
        refine bodyPost_ret (v := .tuple #[.slice a1 xl c1, .int .i64 ((head + sz : Nat) : Int), .int .i64 0]) (by simp [results, Tryz.results30, go_sem]) rfl ?_
        rw [HQ.out]
        exact ⟨_, rfl, HO.out, B1⟩
  · rw [if_pos rfl] at HQ
    have HD : Hid (∀ v' : Value, Src w kb v' (b.drop head) → Calls Tryz.prog 62 #[v', .int .i64 4096] w (DecQ w (decR 4096 (b.drop head)))) := fun v' h =>
      decode_any _ kb v' 4096 w h HK.out HM.out (by rw [HLD.out]; omega) (by decide)
    have hcell : Hid (∀ a' : Option Addr, (head < c → a' = a.map (fun x => x.add head)) → Src w kb (.slice a' (b.length - head) (c - head)) (b.drop head)) := HC.out
    clear HC HK HLD HM
    generalize decR 4096 (b.drop head) = D at *
    obtain ⟨D1, D2, D3⟩ := D
    simp only at HQ HLE
    generalize b.length = n at *
    by_cases h0 : D2 = 0
    · subst h0
      rw [if_pos rfl] at HQ
      go_enter Tryz.func30, Tryz.ntmps30
      go_wp2_with fail
      all_goals
        refine (HD.out _ (by first | (have hx := hcell.out a (fun h => by omega); rw [show c - head = 0 by omega] at hx; exact hx) | exact hcell.out _ (fun _ => rfl) | exact hcell.out _ (fun h => if_neg (by omega)) | exact hcell.out _ (fun h => by omega))).mono ?_
        rintro e w1 ⟨v1, rfl, O1, B1⟩
        obtain ⟨a1, c1, rfl, _⟩ := O1.form
        clear O1
        simp only
        generalize D1.length = xl at *
        go_wp2
        refine bodyPost_ret (v := .tuple #[.slice none 0 0, .int .i64 0, .int .i64 D3]) (by simp [results, Tryz.results30, go_sem]) rfl ?_
        rw [HQ.out]
        exact decq_no B1
    · rw [if_neg h0] at HQ
      have h0' : ¬ ((D2 : Nat) : Int) = 0 := by omega
      have h0'' : (((D2 : Nat) : Int) == 0) = false := by simpa using h0'
      have hle : D2 ≤ n - head := HLE.out
      have hsum : IntKind.i64.wrap ((head : Int) + (D2 : Int)) = ((head + D2 : Nat) : Int) := by simp [IntKind.wrap, IntKind.bits, IntKind.signed]; omega
      go_enter Tryz.func30, Tryz.ntmps30
      go_wp2_with fail
      all_goals
        refine (HD.out _ (by first | (have hx := hcell.out a (fun h => by omega); rw [show c - head = 0 by omega] at hx; exact hx) | exact hcell.out _ (fun _ => rfl) | exact hcell.out _ (fun h => if_neg (by omega)) | exact hcell.out _ (fun h => by omega))).mono ?_
        rintro e w1 ⟨v1, rfl, O1, B1⟩
        obtain ⟨a1, c1, rfl, _⟩ := O1.form
        have HO : Hid (Own w.heap.size w1 (.slice a1 D1.length c1) D1) := O1
        clear O1
        simp only
        generalize D1.length = xl at *
        go_wp2
        refine bodyPost_ret (v := .tuple #[.slice a1 xl c1, .int .i64 ((head + D2 : Nat) : Int), .int .i64 0]) (by simp [results, Tryz.results30, go_sem]) rfl ?_
        rw [HQ.out]
        exact ⟨_, rfl, HO.out, B1⟩
end Go.Proofs.YtkdnckkdofoaoaaGreatDoor

/- Package http: Request. -/
namespace Go.Proofs.YtkdnckkdofoaoaaGreatDoor
open Go.RowKit
set_option linter.unusedVariables false

/-- A request's value. -/
def rdV (r : Rd) (fa ba : Option Addr) (fc bc : Nat) : Value := .tuple #[.agg #[.string r.m, .string r.t, .int .i64 r.minor, .slice fa r.fs.length fc, .slice ba r.body.length bc], .int .i64 (r.n : Nat), .int .i64 r.st]
def ReqR (w : World) (r : Rd) (e : Ending) (w' : World) : Prop := ∃ fa ba fc bc, e = .returned (rdV r fa ba fc bc) ∧ OwnF w.heap.size w' (.slice fa r.fs.length fc) r.fs ∧ Own w.heap.size w' (.slice ba r.body.length bc) r.body ∧ Below w.heap.size w w'

set_option maxRecDepth 100000 in
set_option maxHeartbeats 4000000 in
theorem hreq_any (b : List UInt8) (kb c : Nat) (a : Option Addr) (w : World) (hs : Src w kb (.slice a b.length c) b) (hk : 0 < b.length → kb < w.heap.size) (hM : MaxL w) (hlen : b.length ≤ 1048576) :
    Calls Tryz.prog 8 #[.slice a b.length c] w (ReqR w (reqQ b)) := by
  have U0 : Below w.heap.size w (w.alloc (.cells #[.string ⟨#[]⟩, .string ⟨#[]⟩, .int .i64 0, .slice none 0 0, .slice none 0 0] 26)) := (Below.refl _ _).alloc (Nat.le_refl _) _
  have HOK : Hid (HdOk b.length (headQ b)) := headQ_ok b
  have HH : Hid (Calls Tryz.prog 10 #[.slice a b.length c] (w.alloc (.cells #[.string ⟨#[]⟩, .string ⟨#[]⟩, .int .i64 0, .slice none 0 0, .slice none 0 0] 26)) fun e w' => ∃ fa fc, e = .returned (hdV (headQ b) fa fc) ∧ OwnF (w.heap.size + 1) w' (.slice fa (headQ b).fs.length fc) (headQ b).fs ∧ w.heap.size + 1 ≤ w'.heap.size ∧ Below w.heap.size w w' ∧ w'.heap[w.heap.size]? = some (.cells #[.string ⟨#[]⟩, .string ⟨#[]⟩, .int .i64 0, .slice none 0 0, .slice none 0 0] 26)) := by
    refine (head_any b kb c a _ (hs.keep hk U0) (fun q => Nat.lt_of_lt_of_le (hk q) U0.size) (hM.below U0)).mono ?_
    rintro e w' ⟨fa, fc, he, hO, hB⟩
    have e1 : (w.alloc (.cells #[.string ⟨#[]⟩, .string ⟨#[]⟩, .int .i64 0, .slice none 0 0, .slice none 0 0] 26)).heap.size = w.heap.size + 1 := by simp
    rw [e1] at hO
    have hsz := hB.size
    rw [e1] at hsz
    exact ⟨fa, fc, he, hO, hsz, U0.trans (hB.mono (by simp)), tblk_below (tblk_new _ _) hB⟩
  have HF : Hid (∀ (W : World) (fa : Option Addr) (fc : Nat), Below w.heap.size w W → Fds W.heap.size W (.slice fa (headQ b).fs.length fc) (headQ b).fs → Calls Tryz.prog 29 #[.slice fa (headQ b).fs.length fc, .int .i64 (headQ b).minor] W fun e w' => e = .returned (.tuple #[.int .i64 (reqF (headQ b).fs (headQ b).minor).1, .bool (reqF (headQ b).fs (headQ b).minor).2.1, .int .i64 (reqF (headQ b).fs (headQ b).minor).2.2]) ∧ Below W.heap.size W w') := fun W fa fc B F => request_any _ fa fc _ W F (bd_big HOK.out.bd) (by have := HOK.out.len; omega) (hM.below B)
  obtain ⟨sz, hsz⟩ : ∃ sz : Nat, (reqF (headQ b).fs (headQ b).minor).1 = (sz : Int) := ⟨(reqF (headQ b).fs (headQ b).minor).1.toNat, by have := (told_nn (headQ b).fs (headQ b).minor).1; unfold reqF; simp only; omega⟩
  have hszb : sz ≤ 4096 := by have k := (told_nn (headQ b).fs (headQ b).minor).2; unfold reqF at hsz; simp only at hsz; omega
  have HB : Hid (∀ W, Below w.heap.size w W → Calls Tryz.prog 30 #[.slice a b.length c, .int .i64 ((headQ b).n : Nat), .int .i64 (sz : Nat), .bool (reqF (headQ b).fs (headQ b).minor).2.1] W (DecQ W (bodyOf (headQ b) b))) := fun W B => by
    have k := body_any b kb c a (headQ b).n sz (reqF (headQ b).fs (headQ b).minor).2.1 W (hs.keep hk B) (fun q => Nat.lt_of_lt_of_le (hk q) B.size) (hM.below B) HOK.out.le.1 hlen (by omega)
    unfold bodyOf
    rw [hsz]
    exact k
  have hQ : reqQ b = if (headQ b).n = 0 then rdNo (headQ b).st else rdOf (headQ b) (bodyOf (headQ b) b) := rfl
  rw [hsz] at HF
  have HQ : Hid _ := hQ
  clear hQ hs hk hM U0 hsz hszb hlen HOK
  generalize reqQ b = Q at *
  generalize bodyOf (headQ b) b = X at *
  obtain ⟨X1, X2, X3⟩ := X
  generalize headQ b = H at *
  obtain ⟨m, t, mi, fs, n, st⟩ := H
  simp only at HF HB HQ
  unfold hdV at HH
  simp only at HH
  generalize (reqF fs mi).2.1 = cd at *
  generalize (reqF fs mi).2.2 = s3 at *
  generalize b.length = bl at *
  by_cases h0 : n = 0
  · subst h0
    have HE : Hid (Q = rdNo st) := by rw [Hid, HQ.out, if_pos rfl]
    clear HQ HF HB
    go_enter Tryz.func8, Tryz.ntmps8
    go_wp2_with fail
    refine HH.out.mono ?_
    rintro e w1 ⟨fa, fc, rfl, O1, hs1, B1, hg1⟩
    clear HH O1 hs1
    have B2 := B1.alloc B1.size (.cells #[.string m, .string t, .int .i64 mi, .slice fa fs.length fc, .slice none 0 0] 26)
    have hg2 := tblk_below hg1 ((Below.refl _ _).alloc (Nat.le_refl _) (.cells #[.string m, .string t, .int .i64 mi, .slice fa fs.length fc, .slice none 0 0] 26))
    have HB2 : Hid _ := five_below (.string ⟨#[]⟩) (.string ⟨#[]⟩) (.int .i64 0) (.slice none 0 0) (.slice none 0 0) B2 (Nat.le_refl _)
    unfold five at HB2
    clear B1 B2 hg1
    have HW := five_cells hg2 (.string ⟨#[]⟩) (.string ⟨#[]⟩) (.int .i64 0) (.slice none 0 0) (.slice none 0 0)
    have a0 := tblk_cell (i := 0) hg2 rfl
    have z0 := lblk_z (i := 0) hg2
    have a1 := tblk_cell (i := 1) hg2 rfl
    have z1 := lblk_z (i := 1) hg2
    have a2 := tblk_cell (i := 2) hg2 rfl
    have z2 := lblk_z (i := 2) hg2
    have a3 := tblk_cell (i := 3) hg2 rfl
    have z3 := lblk_z (i := 3) hg2
    have a4 := tblk_cell (i := 4) hg2 rfl
    have z4 := lblk_z (i := 4) hg2
    have r0 := tblk_cell (i := 0) HW rfl
    have r1 := tblk_cell (i := 1) HW rfl
    have r2 := tblk_cell (i := 2) HW rfl
    have r3 := tblk_cell (i := 3) HW rfl
    have r4 := tblk_cell (i := 4) HW rfl
    unfold five at r0 r1 r2 r3 r4
    clear HW hg2
    go_wp2
    refine bodyPost_ret (v := .tuple #[.agg #[.string ⟨#[]⟩, .string ⟨#[]⟩, .int .i64 0, .slice none 0 0, .slice none 0 0], .int .i64 0, .int .i64 st]) (by simp [results, Tryz.results8, go_sem, r0, r1, r2, r3, r4]) rfl ?_
    rw [HE.out]
    exact ⟨none, none, 0, 0, rfl, OwnF.nil _ _, Own.nil _ _, HB2.out⟩
  · have h0' : ¬ ((n : Nat) : Int) = 0 := by omega
    have h0'' : (((n : Nat) : Int) == 0) = false := by simpa using h0'
    rw [if_neg h0] at HQ
    clear h0
    by_cases hx : X2 = 0
    · subst hx
      have HE : Hid (Q = rdNo (bodySt X3)) := HQ.out
      clear HQ
      go_enter Tryz.func8, Tryz.ntmps8
      go_wp2_with fail
      refine HH.out.mono ?_
      rintro e w1 ⟨fa, fc, rfl, O1, hs1, B1, hg1⟩
      clear HH
      have B2 := B1.alloc B1.size (.cells #[.string m, .string t, .int .i64 mi, .slice fa fs.length fc, .slice none 0 0] 26)
      have U2 : Below w1.heap.size w1 (w1.alloc (.cells #[.string m, .string t, .int .i64 mi, .slice fa fs.length fc, .slice none 0 0] 26)) := (Below.refl _ _).alloc (Nat.le_refl _) _
      have hg2 := tblk_below hg1 U2
      have hr2 := tblk_new w1 (.cells #[.string m, .string t, .int .i64 mi, .slice fa fs.length fc, .slice none 0 0] 26)
      have O2 := O1.keep U2
      have d2 := tblk_cell (i := 2) hr2 rfl
      have d3 := tblk_cell (i := 3) hr2 rfl
      have hsp : w.heap.size < w1.heap.size := by omega
      clear B1 hg1 O1 U2 hs1
      go_wp2_with fail
      clear d2 d3
      generalize w1.alloc (.cells #[.string m, .string t, .int .i64 mi, .slice fa fs.length fc, .slice none 0 0] 26) = w2 at *
      generalize w1.heap.size = p at *
      refine (HF.out w2 fa fc B2 O2.fds).mono ?_
      rintro e w3 ⟨rfl, B3⟩
      have D3 := B2.trans (B3.mono B2.size)
      have hg3 := tblk_below hg2 B3
      have hr3 := tblk_below hr2 B3
      have O3 := O2.keep B3
      clear B2 B3 hg2 hr2 O2 HF
      go_wp2_with fail
      refine (HB.out w3 D3).mono ?_
      rintro e w4 ⟨v4, rfl, P4, B4⟩
      obtain ⟨ad4, c4, rfl, _⟩ := P4.form
      have D4 := D3.trans (B4.mono D3.size)
      have hg4 := tblk_below hg3 B4
      have hr4 := tblk_below hr3 B4
      have O4 := O3.keep B4
      have hp3 : p < w3.heap.size := heap_lt hr3
      clear D3 hg3 hr3 O3 HB
      clear hp3 B4
      generalize X1.length = xl at *
      go_wp2_with fail
      refine (bstat_any X3 _).mono ?_
      rintro e w5 ⟨rfl, rfl⟩
      generalize bodySt X3 = bst at *
      have HB5 : Hid _ := five_below (.string ⟨#[]⟩) (.string ⟨#[]⟩) (.int .i64 0) (.slice none 0 0) (.slice none 0 0) D4 (Nat.le_refl _)
      unfold five at HB5
      clear D4 O4 P4 hr4
      have HW := five_cells hg4 (.string ⟨#[]⟩) (.string ⟨#[]⟩) (.int .i64 0) (.slice none 0 0) (.slice none 0 0)
      have a0 := tblk_cell (i := 0) hg4 rfl
      have z0 := lblk_z (i := 0) hg4
      have a1 := tblk_cell (i := 1) hg4 rfl
      have z1 := lblk_z (i := 1) hg4
      have a2 := tblk_cell (i := 2) hg4 rfl
      have z2 := lblk_z (i := 2) hg4
      have a3 := tblk_cell (i := 3) hg4 rfl
      have z3 := lblk_z (i := 3) hg4
      have a4 := tblk_cell (i := 4) hg4 rfl
      have z4 := lblk_z (i := 4) hg4
      have r0 := tblk_cell (i := 0) HW rfl
      have r1 := tblk_cell (i := 1) HW rfl
      have r2 := tblk_cell (i := 2) HW rfl
      have r3 := tblk_cell (i := 3) HW rfl
      have r4 := tblk_cell (i := 4) HW rfl
      unfold five at r0 r1 r2 r3 r4
      clear HW hg4
      go_wp2
      refine bodyPost_ret (v := .tuple #[.agg #[.string ⟨#[]⟩, .string ⟨#[]⟩, .int .i64 0, .slice none 0 0, .slice none 0 0], .int .i64 0, .int .i64 bst]) (by simp [results, Tryz.results8, go_sem, r0, r1, r2, r3, r4]) rfl ?_
      rw [HE.out]
      exact ⟨none, none, 0, 0, rfl, OwnF.nil _ _, Own.nil _ _, HB5.out⟩
    · have hx' : ¬ ((X2 : Nat) : Int) = 0 := by omega
      have hx'' : (((X2 : Nat) : Int) == 0) = false := by simpa using hx'
      have HE : Hid (Q = ⟨m, t, mi, fs, X1, X2, 0⟩) := by
        rw [Hid, HQ.out]
        unfold rdOf
        rw [if_neg hx]
      clear HQ hx
      go_enter Tryz.func8, Tryz.ntmps8
      go_wp2_with fail
      refine HH.out.mono ?_
      rintro e w1 ⟨fa, fc, rfl, O1, hs1, B1, hg1⟩
      clear HH
      have B2 := B1.alloc B1.size (.cells #[.string m, .string t, .int .i64 mi, .slice fa fs.length fc, .slice none 0 0] 26)
      have U2 : Below w1.heap.size w1 (w1.alloc (.cells #[.string m, .string t, .int .i64 mi, .slice fa fs.length fc, .slice none 0 0] 26)) := (Below.refl _ _).alloc (Nat.le_refl _) _
      have hg2 := tblk_below hg1 U2
      have hr2 := tblk_new w1 (.cells #[.string m, .string t, .int .i64 mi, .slice fa fs.length fc, .slice none 0 0] 26)
      have O2 := O1.keep U2
      have O4w := O1
      have hkw0 : ∀ k, k < w1.heap.size → (w1.alloc (.cells #[.string m, .string t, .int .i64 mi, .slice fa fs.length fc, .slice none 0 0] 26)).heap[k]? = w1.heap[k]? := fun k hk => U2.block k hk
      have hpw : w1.heap.size ≤ w1.heap.size := Nat.le_refl _
      have d2 := tblk_cell (i := 2) hr2 rfl
      have d3 := tblk_cell (i := 3) hr2 rfl
      have hsp : w.heap.size < w1.heap.size := by omega
      clear B1 hg1 O1 U2 hs1
      go_wp2_with fail
      clear d2 d3
      generalize w1.alloc (.cells #[.string m, .string t, .int .i64 mi, .slice fa fs.length fc, .slice none 0 0] 26) = w2 at *
      generalize hpd : w1.heap.size = p at *
      have HPD : Hid (w1.heap.size = p) := hpd
      clear hpd
      refine (HF.out w2 fa fc B2 O2.fds).mono ?_
      rintro e w3 ⟨rfl, B3⟩
      have D3 := B2.trans (B3.mono B2.size)
      have hp2 : p < w2.heap.size := heap_lt hr2
      have hkw3 : ∀ k, k < w2.heap.size → w3.heap[k]? = w2.heap[k]? := fun k hk => B3.block k hk
      have hsz3 : w2.heap.size ≤ w3.heap.size := B3.size
      have hg3 := tblk_below hg2 B3
      have hr3 := tblk_below hr2 B3
      have O3 := O2.keep B3
      clear B2 B3 hg2 hr2 O2 HF
      go_wp2_with fail
      refine (HB.out w3 D3).mono ?_
      rintro e w4 ⟨v4, rfl, P4, B4⟩
      obtain ⟨ad4, c4, rfl, _⟩ := P4.form
      have D4 := D3.trans (B4.mono D3.size)
      have hkw : ∀ k, w.heap.size + 1 ≤ k → k < w1.heap.size → w4.heap[k]? = w1.heap[k]? := fun k h1 h2 => ((B4.block k (by have := HPD.out; omega)).trans (hkw3 k (by have := HPD.out; omega))).trans (hkw0 k (by have := HPD.out; omega))
      have hg4 := tblk_below hg3 B4
      have hr4 := tblk_below hr3 B4
      have O4 := O3.keep B4
      have hp3 : p < w3.heap.size := heap_lt hr3
      clear D3 hg3 hr3 O3 HB
      have hr5 := field4 (v := .slice ad4 X1.length c4) hr4
      have hg5 : (w4.setCell ⟨p, 4, none⟩ (.slice ad4 X1.length c4)).heap[w.heap.size]? = some (.cells #[.string ⟨#[]⟩, .string ⟨#[]⟩, .int .i64 0, .slice none 0 0, .slice none 0 0] 26) := (set_away (by omega)).trans hg4
      have D5 : Below w.heap.size w (w4.setCell ⟨p, 4, none⟩ (.slice ad4 X1.length c4)) := D4.setCell (p := ⟨p, 4, none⟩) (Nat.le_of_lt hsp) _
      have HB5 : Hid _ := five_below (.string m) (.string t) (.int .i64 mi) (.slice fa fs.length fc) (.slice ad4 X1.length c4) D5 (Nat.le_refl _)
      have HO5 : Hid (OwnF w.heap.size (five (w4.setCell ⟨p, 4, none⟩ (.slice ad4 X1.length c4)) w.heap.size (.string m) (.string t) (.int .i64 mi) (.slice fa fs.length fc) (.slice ad4 X1.length c4)) (.slice fa fs.length fc) fs) := (O4w.kept (fun k h1 h2 => (five_away (by omega)).trans ((set_away (by have := HPD.out; omega)).trans (hkw k h1 h2)))).mono (by omega)
      have HP5 : Hid (Own w.heap.size (five (w4.setCell ⟨p, 4, none⟩ (.slice ad4 X1.length c4)) w.heap.size (.string m) (.string t) (.int .i64 mi) (.slice fa fs.length fc) (.slice ad4 X1.length c4)) (.slice ad4 X1.length c4) X1) := (P4.kept (fun k h1 h2 => (five_away (by omega)).trans (set_away (by omega)))).mono (by have := heap_lt hg4; have := D4.size; omega)
      unfold five at HB5 HO5 HP5
      have y4 := tblk_cell (i := 4) hr4 rfl
      have x4 := lblk_z (i := 4) hr4
      have d0 := tblk_cell (i := 0) hr5 rfl
      have d1 := tblk_cell (i := 1) hr5 rfl
      have d2 := tblk_cell (i := 2) hr5 rfl
      have d3 := tblk_cell (i := 3) hr5 rfl
      have d4 := tblk_cell (i := 4) hr5 rfl
      clear hr4 hr5 hg4 D4 D5 O4 P4 B4 hp3 hkw0 hkw3 hkw hsz3 hp2 hsp O4w hpw
      generalize hxl : X1.length = xl at *
      have HXL : Hid (X1.length = xl) := hxl
      clear hxl
      have HW := five_cells hg5 (.string m) (.string t) (.int .i64 mi) (.slice fa fs.length fc) (.slice ad4 xl c4)
      have a0 := tblk_cell (i := 0) hg5 rfl
      have z0 := lblk_z (i := 0) hg5
      have a1 := tblk_cell (i := 1) hg5 rfl
      have z1 := lblk_z (i := 1) hg5
      have a2 := tblk_cell (i := 2) hg5 rfl
      have z2 := lblk_z (i := 2) hg5
      have a3 := tblk_cell (i := 3) hg5 rfl
      have z3 := lblk_z (i := 3) hg5
      have a4 := tblk_cell (i := 4) hg5 rfl
      have z4 := lblk_z (i := 4) hg5
      have r0 := tblk_cell (i := 0) HW rfl
      have r1 := tblk_cell (i := 1) HW rfl
      have r2 := tblk_cell (i := 2) HW rfl
      have r3 := tblk_cell (i := 3) HW rfl
      have r4 := tblk_cell (i := 4) HW rfl
      unfold five at r0 r1 r2 r3 r4
      clear HW hg5
      go_wp2
      refine bodyPost_ret (v := .tuple #[.agg #[.string m, .string t, .int .i64 mi, .slice fa fs.length fc, .slice ad4 xl c4], .int .i64 (X2 : Nat), .int .i64 0]) (by simp [results, Tryz.results8, go_sem, r0, r1, r2, r3, r4]) rfl ?_
      rw [HE.out]
      obtain rfl := HXL.out
      exact ⟨fa, ad4, fc, c4, rfl, HO5.out, HP5.out, HB5.out⟩
end Go.Proofs.YtkdnckkdofoaoaaGreatDoor
