/- Package frame: what each call answers of fields. -/
import Derived.Test.YthbjdbookiejeabGreatDoorFsC
import Derived.Test.YthbjdbookiejeabGreatDoorDecR
import Derived.OwnWalk
namespace Go.Proofs.YthbjdbookiejeabGreatDoor
open Go.ChangeShapes Go.WideShapes Go.ChangeAt Go.RowKit
set_option linter.unusedVariables false

theorem Fds.over {w W : World} {v : Value} {fs : Fs} (h : Fds w.heap.size w v fs) (b : Below w.heap.size w W) : Fds W.heap.size W v fs := (h.keep b).mono b.size
theorem int_pos (n : Nat) : decide ((0 : Int) < (n : Int)) = decide (0 < n) := by
  by_cases h : 0 < n
  · rw [decide_eq_true h, decide_eq_true (by omega)]
  · rw [decide_eq_false h, decide_eq_false (by omega)]

set_option maxHeartbeats 1000000 in
theorem there_any (fs : Fs) (a : Option Addr) (c : Nat) (name : ByteArray) (w : World) (hf : Fds w.heap.size w (.slice a fs.length c) fs) (hb : FBd 1048576 fs) (hn : name.size ≤ 1048576) (hl : fs.length ≤ 1024) :
    Calls Tryz.prog 98 #[.slice a fs.length c, .string name] w fun e w' => e = .returned (.bool (thereF fs name)) ∧ Below w.heap.size w w' := by
  have HG : Hid (Calls Tryz.prog 41 #[.slice a fs.length c, .string name] w fun e w' => ∃ ao cv, e = .returned (.slice ao (getF fs name).length cv) ∧ OwnT w.heap.size w' (.slice ao (getF fs name).length cv) (getF fs name) ∧ Below w.heap.size w w') := get_any fs a c name w hf (hb.mono (by decide)) (by omega) (by omega)
  unfold thereF
  clear hf hb hn hl
  generalize getF fs name = vs at *
  go_enter Tryz.func98, Tryz.ntmps98
  go_wp2_with fail
  refine HG.out.mono ?_
  rintro e w1 ⟨ao1, cv1, rfl, own1, B1⟩
  clear own1 HG
  go_wp2
  go_ret
  exact ⟨ret_bool (by first | exact int_pos _ | simp), B1⟩

set_option maxHeartbeats 1000000 in
theorem chunked_any (fs : Fs) (a : Option Addr) (c : Nat) (w : World) (hf : Fds w.heap.size w (.slice a fs.length c) fs) (hb : FBd 1048576 fs) (hl : fs.length ≤ 1024) (hM : MaxL w) :
    Calls Tryz.prog 99 #[.slice a fs.length c] w fun e w' => e = .returned (.bool (chunkedF fs)) ∧ Below w.heap.size w w' := by
  have HL : Hid (Calls Tryz.prog 96 #[.slice a fs.length c, .string ⟨#[84, 114, 97, 110, 115, 102, 101, 114, 45, 69, 110, 99, 111, 100, 105, 110, 103]⟩] w fun e w' => ∃ ao cv, e = .returned (.slice ao (listF fs tTE).length cv) ∧ OwnT w.heap.size w' (.slice ao (listF fs tTE).length cv) (listF fs tTE) ∧ Below w.heap.size w w') := list_any fs a c tTE w hf hb (by decide) hl hM
  have HBD : Hid (TBd 1048576 (listF fs tTE)) := listF_bd hb
  unfold chunkedF
  clear hf hb hl hM
  generalize listF fs tTE = xs at *
  generalize hck : chunkL xs = ck
  have HCK : Hid (chunkL xs = ck) := hck
  clear hck
  go_enter Tryz.func99, Tryz.ntmps99
  go_wp2_with fail
  refine HL.out.mono ?_
  rintro e w1 ⟨ao1, cv1, rfl, own1, B1⟩
  have T1 := own1.txs
  clear own1 HL
  match xs, T1, HBD, HCK with
  | [], _, _, HCK =>
    go_wp2
    go_ret
    exact ⟨ret_bool HCK.out, B1⟩
  | [p], T1, HBD, HCK =>
    obtain ⟨a', c', e, hnil, q1, q2, q3⟩ := T1
    obtain ⟨rfl, _, rfl⟩ := slice_inj e
    obtain ⟨g, off, rfl, hg, hc⟩ := q3 Nat.one_pos
    have hc0 : w1.cell? ⟨g, off, none⟩ = some (.string p) := hc 0 Nat.one_pos
    have HS : Hid (∀ W, Calls Tryz.prog 73 #[.string p, .string ⟨#[99, 104, 117, 110, 107, 101, 100]⟩] W fun e w' => e = .returned (.bool (smT p tCh)) ∧ Below W.heap.size W w') := fun W => same_sm p tCh W (by have := HBD.out p (List.mem_cons_self ..); unfold maxLen; omega) (by decide)
    have HK2 : Hid (smT p tCh = ck) := HCK.out
    clear e hnil q1 q2 q3 hc HBD HCK
    generalize smT p tCh = b at *
    go_wp2_with fail
    refine (HS.out _).mono ?_
    rintro e w2 ⟨rfl, B2⟩
    go_wp2
    go_ret
    exact ⟨ret_bool HK2.out, B1.trans (B2.mono B1.size)⟩
  | p :: q :: r, _, _, HCK =>
    have HK2 : Hid (false = ck) := HCK.out
    have h1 : ¬ (((p :: q :: r).length : Int) = 1) := by simp only [List.length_cons]; omega
    have h2 : (((p :: q :: r).length : Int) == 1) = false := by simpa using h1
    clear h1 HCK
    generalize (p :: q :: r).length = n at *
    go_wp2
    go_ret
    exact ⟨ret_bool HK2.out, B1⟩

theorem sameN_snoc {f : Int} {ps : List ByteArray} {k : Nat} (h : k < ps.length) : sameN f (ps.take (k + 1)) = (sameN f (ps.take k) && (numB 10 18 ps[k] && decide (numI 10 18 ps[k] = f))) := by
  rw [List.take_succ_eq_append_getElem h]
  unfold sameN
  rw [List.all_append]
  simp
theorem eq_dec (x y : Int) : (x == y) = decide (x = y) := by
  by_cases h : x = y
  · rw [decide_eq_true h, h]; simp
  · rw [decide_eq_false h]; simpa using h

set_option maxRecDepth 100000 in
set_option maxHeartbeats 1000000 in
theorem length_any (fs : Fs) (a : Option Addr) (c : Nat) (w : World) (hf : Fds w.heap.size w (.slice a fs.length c) fs) (hb : FBd 1048576 fs) (hl : fs.length ≤ 1024) (hM : MaxL w) :
    Calls Tryz.prog 100 #[.slice a fs.length c] w fun e w' => e = .returned (.tuple #[.int .i64 (lengthF fs).1, .bool (lengthF fs).2]) ∧ Below w.heap.size w w' := by
  have HL : Hid (Calls Tryz.prog 96 #[.slice a fs.length c, .string ⟨#[67, 111, 110, 116, 101, 110, 116, 45, 76, 101, 110, 103, 116, 104]⟩] w fun e w' => ∃ ao cv, e = .returned (.slice ao (listF fs tCL).length cv) ∧ OwnT w.heap.size w' (.slice ao (listF fs tCL).length cv) (listF fs tCL) ∧ Below w.heap.size w w') := list_any fs a c tCL w hf hb (by decide) hl hM
  have HBD : Hid (TBd 1048576 (listF fs tCL)) := listF_bd hb
  have HLN : Hid ((listF fs tCL).length ≤ 1024 * 1048578) := listF_len hb hl
  unfold lengthF
  clear hf hb hl hM
  generalize listF fs tCL = xs at *
  generalize hck : lenL xs = ck
  have HCK : Hid (lenL xs = ck) := hck
  clear hck
  obtain ⟨n, r⟩ := ck
  go_enter Tryz.func100, Tryz.ntmps100
  go_wp2_with fail
  refine HL.out.mono ?_
  rintro e w1 ⟨ao1, cv1, rfl, own1, B1⟩
  have T1 := own1.txs
  clear own1 HL
  match xs, T1, HBD, HCK, HLN with
  | [], _, _, HCK, _ =>
    have HK2 : Hid ((0, false) = (n, r)) := HCK.out
    clear HCK
    go_wp2
    go_ret2
    exact ⟨ret2_ib (congrArg Prod.fst HK2.out) (congrArg Prod.snd HK2.out), B1⟩
  | p :: ps, T1, HBD, HCK, HLN =>
    obtain ⟨a', c', e, hnil, q1, q2, q3⟩ := T1
    obtain ⟨rfl, _, rfl⟩ := slice_inj e
    obtain ⟨g, off, rfl, hg, hc⟩ := q3 (Nat.zero_lt_succ _)
    have hc0 : w1.cell? ⟨g, off, none⟩ = some (.string p) := hc 0 (Nat.zero_lt_succ _)
    have HC : Hid (∀ (j : Nat) (hj : j < ps.length), w1.cell? ⟨g, off + 1 + j, none⟩ = some (.string ps[j])) := fun j hj => by
      have k := hc (j + 1) (by simpa using hj)
      rw [show off + (j + 1) = off + 1 + j by omega] at k
      exact k
    have HS : Hid (∀ x ∈ p :: ps, ∀ W, Calls Tryz.prog 119 #[.string x] W fun e w' => e = .returned (.tuple #[.int .i64 (numI 10 18 x), .bool (numB 10 18 x)]) ∧ w' = W) := fun x hx W => decimal_any x W (by have := HBD.out x hx; unfold maxLen; omega)
    have HK2 : Hid ((if (numB 10 18 p && sameN (numI 10 18 p) ps) = true then (numI 10 18 p, true) else (0, false)) = (n, r)) := HCK.out
    have hln : ps.length ≤ 1073743872 := by have := HLN.out; simp only [List.length_cons] at this; omega
    have hcv : ps.length + 1 ≤ cv1 := by simpa using q1
    unfold maxLen at q2
    clear e hnil q1 q3 hc HBD HCK HLN
    have hlc : (p :: ps).length = ps.length + 1 := rfl
    rw [hlc]
    clear hlc
    go_wp2_with fail
    refine (HS.out p (List.mem_cons_self ..) _).mono ?_
    rintro e w2 ⟨rfl, rfl⟩
    generalize numI 10 18 p = f at *
    generalize numB 10 18 p = b at *
    rcases Nat.eq_zero_or_pos ps.length with h0 | hp
    · have he : ps = [] := List.eq_nil_of_length_eq_zero h0
      subst he
      clear h0 HC HS hc0
      cases b
      · have HK3 : Hid ((0, false) = (n, r)) := HK2.out
        clear HK2
        go_wp2
        all_goals
          refine wp_loop_rounds 1 ?_
          rw [rounds_succ]
          go_wp2
          go_ret2
          exact ⟨ret2_ib (congrArg Prod.fst HK3.out) (congrArg Prod.snd HK3.out), B1⟩
      · have HK3 : Hid ((f, true) = (n, r)) := HK2.out
        clear HK2
        go_wp2
        all_goals
          refine wp_loop_rounds 1 ?_
          rw [rounds_succ]
          go_wp2
          go_ret2
          exact ⟨ret2_ib (congrArg Prod.fst HK3.out) (congrArg Prod.snd HK3.out), B1⟩
    · have hcap : ¬ cv1 = 1 := by omega
      go_wp2_with fail
      go_loop [6, 26] (fun vr vi => ∃ k : Nat, k ≤ ps.length ∧ vi = .int .i64 k ∧ vr = .bool (b && sameN f (ps.take k))) (fun _ vi => ps.length - (intOf vi).toNat)
      case atStart => exact ⟨0, Nat.zero_le _, rfl, by simp [sameN]⟩
      case round =>
        obtain ⟨k, hk, rfl, rfl⟩ := hrel
        by_cases hlt : k < ps.length
        · have hc1 := HC.out k hlt
          have hsn : Hid ((b && sameN f (ps.take (k + 1))) = ((b && sameN f (ps.take k)) && (numB 10 18 ps[k] && decide (numI 10 18 ps[k] = f)))) := by rw [Hid, sameN_snoc hlt, Bool.and_assoc]
          have HX : Hid (∀ W, Calls Tryz.prog 119 #[.string ps[k]] W fun e w' => e = .returned (.tuple #[.int .i64 (numI 10 18 ps[k]), .bool (numB 10 18 ps[k])]) ∧ w' = W) := HS.out ps[k] (List.mem_cons_of_mem _ (List.getElem_mem hlt))
          generalize (b && sameN f (ps.take k)) = rr at *
          generalize numI 10 18 ps[k] = nx at *
          generalize numB 10 18 ps[k] = nb at *
          generalize ps[k] = x at *
          go_wp2_with fail
          refine (HX.out _).mono ?_
          rintro e w3 ⟨rfl, rfl⟩
          cases rr
          · have hs2 : Hid ((b && sameN f (ps.take (k + 1))) = false) := hsn.out
            clear hsn HX
            go_wp2
            go_round
            case rel => exact ⟨k + 1, by omega, by go_num, by rw [hs2.out]⟩
            case measure => simp [intOf]; omega
          · cases nb
            · have hs2 : Hid ((b && sameN f (ps.take (k + 1))) = false) := hsn.out
              clear hsn HX
              go_wp2
              go_round
              case rel => exact ⟨k + 1, by omega, by go_num, by rw [hs2.out]⟩
              case measure => simp [intOf]; omega
            · have hs2 : Hid ((b && sameN f (ps.take (k + 1))) = decide (nx = f)) := hsn.out
              clear hsn HX
              go_wp2
              go_round
              case rel => exact ⟨k + 1, by omega, by go_num, by rw [hs2.out, eq_dec]⟩
              case measure => simp [intOf]; omega
        · have hk' : k = ps.length := by omega
          subst hk'
          rw [List.take_length] at *
          clear hlt hk
          generalize (b && sameN f ps) = rr at *
          cases rr
          · have HK3 : Hid ((0, false) = (n, r)) := HK2.out
            clear HK2
            go_wp2
            go_ret2
            exact ⟨ret2_ib (congrArg Prod.fst HK3.out) (congrArg Prod.snd HK3.out), B1⟩
          · have HK3 : Hid ((f, true) = (n, r)) := HK2.out
            clear HK2
            go_wp2
            go_ret2
            exact ⟨ret2_ib (congrArg Prod.fst HK3.out) (congrArg Prod.snd HK3.out), B1⟩
end Go.Proofs.YthbjdbookiejeabGreatDoor
