/- The reference of package frame. -/
import Derived.Test.YtflgjhknobnnaaaDoorFrC
import Derived.Test.YtflgjhknobnnaaaDoorFsD
import Derived.Test.YtflgjhknobnnaaaDoorRDec
namespace Go.Proofs.YtflgjhknobnnaaaDoor
open Go.ChangeShapes Go.WideShapes Go.ChangeAt Go.RowKit
set_option linter.unusedVariables false

def lCL : ByteArray := ⟨#[99, 111, 110, 116, 101, 110, 116, 45, 108, 101, 110, 103, 116, 104]⟩
def lTE : ByteArray := ⟨#[116, 114, 97, 110, 115, 102, 101, 114, 45, 101, 110, 99, 111, 100, 105, 110, 103]⟩
def lCo : ByteArray := ⟨#[99, 111, 110, 110, 101, 99, 116, 105, 111, 110]⟩
theorem fold_CL : foldS lCL = foldS tCL := by decide +kernel
theorem fold_TE : foldS lTE = foldS tTE := by decide +kernel
theorem fold_Co : foldS lCo = foldS tCo := by decide +kernel
theorem thereF_congr {n n' : ByteArray} (h : foldS n = foldS n') (fs : Fs) : thereF fs n = thereF fs n' := by unfold thereF; rw [getF_congr h]
theorem hasF_congr {n n' : ByteArray} (h : foldS n = foldS n') (fs : Fs) (p : ByteArray) : hasF fs n p = hasF fs n' p := by unfold hasF; rw [listF_congr h]
theorem smCh (p : ByteArray) : smT p tCh = ((foldS p).toList == [99, 104, 117, 110, 107, 101, 100]) := by
  unfold smT
  rw [show (foldS tCh).toList = [99, 104, 117, 110, 107, 101, 100] by decide +kernel]

set_option maxHeartbeats 1000000 in
theorem rthere_any (fs : Fs) (a : Option Addr) (c : Nat) (name : ByteArray) (w : World) (hf : Fds w.heap.size w (.slice a fs.length c) fs) (hb : FBd 1048576 fs) (hn : name.size ≤ 1048576) (hl : fs.length ≤ 1024) :
    Calls Tryd.prog 18 #[.slice a fs.length c, .string name] w fun e w' => e = .returned (.bool (thereF fs name)) ∧ Below w.heap.size w w' := by
  have HG : Hid (Calls Tryd.prog 27 #[.slice a fs.length c, .string name] w fun e w' => ∃ ao cv, e = .returned (.slice ao (getF fs name).length cv) ∧ OwnT w.heap.size w' (.slice ao (getF fs name).length cv) (getF fs name) ∧ Below w.heap.size w w') := rget_any fs a c name w hf hb hn hl
  unfold thereF
  clear hf hb hn hl
  generalize getF fs name = vs at *
  go_enter Tryd.func18, Tryd.ntmps18
  go_wp2_with fail
  refine HG.out.mono ?_
  rintro e w1 ⟨ao1, cv1, rfl, own1, B1⟩
  clear own1 HG
  go_wp2
  go_ret
  exact ⟨ret_bool (by first | exact int_pos _ | simp), B1⟩

set_option maxHeartbeats 1000000 in
theorem rcoded_any (fs : Fs) (a : Option Addr) (c : Nat) (w : World) (hf : Fds w.heap.size w (.slice a fs.length c) fs) (hb : FBd 1048576 fs) (hl : fs.length ≤ 1024) :
    Calls Tryd.prog 19 #[.slice a fs.length c] w fun e w' => e = .returned (.bool (chunkedF fs)) ∧ Below w.heap.size w w' := by
  have HL0 := rlist_any fs a c lTE w hf hb (by decide) hl
  rw [listF_congr fold_TE] at HL0
  have HL : Hid (Calls Tryd.prog 28 #[.slice a fs.length c, .string ⟨#[116, 114, 97, 110, 115, 102, 101, 114, 45, 101, 110, 99, 111, 100, 105, 110, 103]⟩] w fun e w' => ∃ ao cv, e = .returned (.slice ao (listF fs tTE).length cv) ∧ OwnT w.heap.size w' (.slice ao (listF fs tTE).length cv) (listF fs tTE) ∧ Below w.heap.size w w') := HL0
  have HBD : Hid (TBd 1048576 (listF fs tTE)) := listF_bd hb
  unfold chunkedF
  clear hf hb hl HL0
  generalize listF fs tTE = xs at *
  generalize hck : chunkL xs = ck
  have HCK : Hid (chunkL xs = ck) := hck
  clear hck
  go_enter Tryd.func19, Tryd.ntmps19
  go_wp2_with fail
  refine HL.out.mono ?_
  rintro e w1 ⟨ao1, cv1, rfl, own1, B1⟩
  have T1 := own1.txs
  clear own1 HL
  match xs, T1, HBD, HCK with
  | [], _, _, HCK =>
    go_wp2
    go_ret
    exact ⟨ret_bool HCK.out, B1⟩
  | [p], T1, HBD, HCK =>
    obtain ⟨a', c', e, hnil, q1, q2, q3⟩ := T1
    obtain ⟨rfl, _, rfl⟩ := slice_inj e
    obtain ⟨g, off, rfl, hg, hc⟩ := q3 Nat.one_pos
    have hc0 : w1.cell? ⟨g, off, none⟩ = some (.string p) := hc 0 Nat.one_pos
    have HS : Hid (∀ W, Calls Tryd.prog 29 #[.string p] W fun e w' => e = .returned (.string (foldS p)) ∧ Below W.heap.size W w') := fun W => rfold_any p W (by have := HBD.out p (List.mem_cons_self ..); omega)
    have HK2 : Hid (((foldS p).toList == [99, 104, 117, 110, 107, 101, 100]) = ck) := by rw [Hid, ← smCh]; exact HCK.out
    clear e hnil q1 q2 q3 hc HBD HCK
    generalize foldS p = b at *
    go_wp2_with fail
    refine (HS.out _).mono ?_
    rintro e w2 ⟨rfl, B2⟩
    go_wp2
    go_ret
    exact ⟨ret_bool HK2.out, B1.trans (B2.mono B1.size)⟩
  | p :: q :: r, _, _, HCK =>
    have HK2 : Hid (false = ck) := HCK.out
    have h1 : ¬ (((p :: q :: r).length : Int) = 1) := by simp only [List.length_cons]; omega
    have h2 : (((p :: q :: r).length : Int) == 1) = false := by simpa using h1
    clear h1 HCK
    generalize (p :: q :: r).length = n at *
    go_wp2
    go_ret
    exact ⟨ret_bool HK2.out, B1⟩

theorem lenL_cons (p : ByteArray) (r : List ByteArray) : lenL (p :: r) = if sameN (numI 10 18 p) (p :: r) = true then (numI 10 18 p, true) else (0, false) := by
  unfold lenL
  have e : sameN (numI 10 18 p) (p :: r) = (numB 10 18 p && sameN (numI 10 18 p) r) := by
    unfold sameN
    rw [List.all_cons]
    simp
  rw [e]
theorem sameN_bad {f : Int} {ps : List ByteArray} {k : Nat} (h : k < ps.length) (hb : (numB 10 18 ps[k] && decide (numI 10 18 ps[k] = f)) = false) : sameN f ps = false := by
  unfold sameN
  rw [List.all_eq_false]
  exact ⟨ps[k], List.getElem_mem h, by simpa using hb⟩

set_option maxRecDepth 100000 in
set_option maxHeartbeats 1000000 in
theorem rlength_any (fs : Fs) (a : Option Addr) (c : Nat) (w : World) (hf : Fds w.heap.size w (.slice a fs.length c) fs) (hb : FBd 1048576 fs) (hl : fs.length ≤ 1024) :
    Calls Tryd.prog 20 #[.slice a fs.length c] w fun e w' => e = .returned (.tuple #[.int .i64 (lengthF fs).1, .bool (lengthF fs).2]) ∧ Below w.heap.size w w' := by
  have HL0 := rlist_any fs a c lCL w hf hb (by decide) hl
  rw [listF_congr fold_CL] at HL0
  have HL : Hid (Calls Tryd.prog 28 #[.slice a fs.length c, .string ⟨#[99, 111, 110, 116, 101, 110, 116, 45, 108, 101, 110, 103, 116, 104]⟩] w fun e w' => ∃ ao cv, e = .returned (.slice ao (listF fs tCL).length cv) ∧ OwnT w.heap.size w' (.slice ao (listF fs tCL).length cv) (listF fs tCL) ∧ Below w.heap.size w w') := HL0
  have HBD : Hid (TBd 1048576 (listF fs tCL)) := listF_bd hb
  have HLN : Hid ((listF fs tCL).length ≤ 1024 * 1048578) := listF_len hb hl
  unfold lengthF
  clear hf hb hl HL0
  generalize listF fs tCL = xs at *
  generalize hck : lenL xs = ck
  have HCK : Hid (lenL xs = ck) := hck
  clear hck
  obtain ⟨n, r⟩ := ck
  go_enter Tryd.func20, Tryd.ntmps20
  go_wp2_with fail
  refine HL.out.mono ?_
  rintro e w1 ⟨ao1, cv1, rfl, own1, B1⟩
  have T1 := own1.txs
  clear own1 HL
  match xs, T1, HBD, HCK, HLN with
  | [], _, _, HCK, _ =>
    have HK2 : Hid ((0, false) = (n, r)) := HCK.out
    clear HCK
    go_wp2
    go_ret2
    exact ⟨ret2_ib (congrArg Prod.fst HK2.out) (congrArg Prod.snd HK2.out), B1⟩
  | p :: ps, T1, HBD, HCK, HLN =>
    obtain ⟨a', c', e, hnil, q1, q2, q3⟩ := T1
    obtain ⟨rfl, _, rfl⟩ := slice_inj e
    obtain ⟨g, off, rfl, hg, hc⟩ := q3 (Nat.zero_lt_succ _)
    have hc0 : w1.cell? ⟨g, off, none⟩ = some (.string p) := hc 0 (Nat.zero_lt_succ _)
    have HC : Hid (∀ (j : Nat) (hj : j < (p :: ps).length), w1.cell? ⟨g, off + j, none⟩ = some (.string (p :: ps)[j])) := hc
    have HS : Hid (∀ x ∈ p :: ps, ∀ W, Calls Tryd.prog 30 #[.string x] W fun e w' => e = .returned (.tuple #[.int .i64 (numI 10 18 x), .bool (numB 10 18 x)]) ∧ w' = W) := fun x hx W => rdecimal_any x W (by have := HBD.out x hx; unfold maxLen; omega)
    have HK2 : Hid ((if sameN (numI 10 18 p) (p :: ps) = true then (numI 10 18 p, true) else (0, false)) = (n, r)) := by rw [Hid, ← lenL_cons]; exact HCK.out
    have HS0 : Hid (∀ W, Calls Tryd.prog 30 #[.string p] W fun e w' => e = .returned (.tuple #[.int .i64 (numI 10 18 p), .bool (numB 10 18 p)]) ∧ w' = W) := HS.out p (List.mem_cons_self ..)
    have HB0 : Hid (sameN (numI 10 18 p) (p :: ps) = true → numB 10 18 p = true) := fun h => by
      unfold sameN at h
      rw [List.all_cons] at h
      simp at h
      exact h.1
    have hln : (p :: ps).length ≤ 1073743872 := HLN.out
    have hpos : 0 < (p :: ps).length := Nat.zero_lt_succ _
    clear e hnil q1 q3 hc HBD HCK HLN
    have hz : ¬ (((p :: ps).length : Int) = 0) := by omega
    have hz2 : (((p :: ps).length : Int) == 0) = false := by simpa using hz
    clear hz
    generalize numI 10 18 p = f at *
    generalize numB 10 18 p = b at *
    generalize hq : p :: ps = Q at *
    clear hq
    go_wp2_with fail
    refine (HS0.out _).mono ?_
    rintro e w2 ⟨rfl, rfl⟩
    clear HS0 hc0
    go_wp2_with fail
    go_loop [7] (fun vi => ∃ k : Nat, k ≤ Q.length ∧ vi = .int .i64 k ∧ Hid (sameN f (Q.take k) = true)) (fun vi => Q.length - (intOf vi).toNat)
    case atStart => exact ⟨0, Nat.zero_le _, rfl, rfl⟩
    case round =>
      obtain ⟨k, hk, rfl, hA⟩ := hrel
      by_cases hlt : k < Q.length
      · have hc1 := HC.out k hlt
        have hY : Hid ((numB 10 18 Q[k] && decide (numI 10 18 Q[k] = f)) = true → sameN f (Q.take (k + 1)) = true) := fun q => by rw [sameN_snoc hlt, hA.out, q]; rfl
        have hN : Hid ((numB 10 18 Q[k] && decide (numI 10 18 Q[k] = f)) = false → sameN f Q = false) := fun q => sameN_bad hlt q
        have HX : Hid (∀ W, Calls Tryd.prog 30 #[.string Q[k]] W fun e w' => e = .returned (.tuple #[.int .i64 (numI 10 18 Q[k]), .bool (numB 10 18 Q[k])]) ∧ w' = W) := HS.out Q[k] (List.getElem_mem hlt)
        generalize numI 10 18 Q[k] = nx at *
        generalize numB 10 18 Q[k] = nb at *
        generalize Q[k] = x at *
        cases nb
        · have HK3 : Hid ((0, false) = (n, r)) := by
            have h := HK2.out
            rw [hN.out rfl] at h
            exact h
          clear hY hN HK2
          go_wp2_with fail
          refine (HX.out _).mono ?_
          rintro e w3 ⟨rfl, rfl⟩
          go_wp2
          go_ret2
          exact ⟨ret2_ib (congrArg Prod.fst HK3.out) (congrArg Prod.snd HK3.out), B1⟩
        · by_cases hx : nx = f
          · subst hx
            have hY2 : Hid (sameN nx (Q.take (k + 1)) = true) := hY.out (by simp)
            clear hY hN
            go_wp2_with fail
            refine (HX.out _).mono ?_
            rintro e w3 ⟨rfl, rfl⟩
            go_wp2
            go_round
            case rel => exact ⟨k + 1, by omega, by go_num, hY2⟩
            case measure => simp [intOf]; omega
          · have HK3 : Hid ((0, false) = (n, r)) := by
              have h := HK2.out
              rw [hN.out (by rw [decide_eq_false hx]; rfl)] at h
              exact h
            have hx2 : (nx != f) = true := by simpa using hx
            clear hY hN HK2 hx
            go_wp2_with fail
            refine (HX.out _).mono ?_
            rintro e w3 ⟨rfl, rfl⟩
            go_wp2
            go_ret2
            exact ⟨ret2_ib (congrArg Prod.fst HK3.out) (congrArg Prod.snd HK3.out), B1⟩
      · have hk' : k = Q.length := by omega
        subst hk'
        have hA2 := hA.out
        rw [List.take_length] at hA2
        have HK3 : Hid ((f, true) = (n, r)) := by
          have h := HK2.out
          rw [hA2] at h
          exact h
        have hb2 : b = true := HB0.out hA2
        subst hb2
        clear hA2 HK2 HB0
        go_wp2
        go_ret2
        exact ⟨ret2_ib (congrArg Prod.fst HK3.out) (congrArg Prod.snd HK3.out), B1⟩
end Go.Proofs.YtflgjhknobnnaaaDoor
