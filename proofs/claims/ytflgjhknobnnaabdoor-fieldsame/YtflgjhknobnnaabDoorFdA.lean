/- FieldLooks, walked. -/
import Derived.Test.YtflgjhknobnnaabDoorFsF
import Derived.Test.YtflgjhknobnnaabDoorFsG
namespace Go.Proofs.YtflgjhknobnnaabDoor
open Go.ChangeShapes Go.WideShapes Go.ChangeAt Go.RowKit
set_option linter.unusedVariables false

theorem Fds.over {w W : World} {v : Value} {fs : Fs} (h : Fds w.heap.size w v fs) (b : Below w.heap.size w W) : Fds W.heap.size W v fs := (h.keep b).mono b.size
theorem Txs.over {w W : World} {v : Value} {xs : List ByteArray} (h : Txs w.heap.size w v xs) (b : Below w.heap.size w W) : Txs W.heap.size W v xs := (h.keep b).mono b.size

set_option maxRecDepth 100000 in
set_option maxHeartbeats 2000000 in
theorem looks_walk (fs : Fs) (a : Option Addr) (n c : Nat) (ns : List ByteArray) (b : Option Addr) (m d : Nat) (part : ByteArray) (w : World) (hf : Fds w.heap.size w (.slice a n c) fs) (hb : FBd 1048576 fs) (hn : Txs w.heap.size w (.slice b m d) ns) (hnb : TBd 1048576 ns) (hq : part.size ≤ 1048576) (hM : MaxL w) :
    Calls Tryd.prog 3 #[.slice a n c, .slice b m d, .string part] w fun e w' => e = .returned (.bool true) ∧ Below w.heap.size w w' := by
  obtain ⟨hle, h2, h3⟩ := hf.len
  obtain ⟨hme, m2, m3⟩ := hn.len
  unfold maxLen at h3 m3
  subst hle hme
  by_cases hbig : (300 : Int) < (fs.length : Int)
  · clear hf hb hn hnb
    go_enter Tryd.func3, Tryd.ntmps3
    go_wp2_with fail
    refine (looking_any _ hM).mono ?_
    rintro e w1 ⟨rfl, B1⟩
    go_wp2
    go_ret
    exact ⟨rfl, B1⟩
  · by_cases hbig2 : (300 : Int) < (ns.length : Int)
    · clear hf hb hn hnb
      go_enter Tryd.func3, Tryd.ntmps3
      go_wp2_with fail
      refine (looking_any _ hM).mono ?_
      rintro e w1 ⟨rfl, B1⟩
      go_wp2
      go_ret
      exact ⟨rfl, B1⟩
    · have hl : fs.length ≤ 1024 := by omega
      have HG : Hid (∀ nm : ByteArray, nm.size ≤ 1048576 → ∀ W, Below w.heap.size w W → Calls Tryd.prog 11 #[.slice a fs.length c, .string nm] W fun e w' => ∃ ao cv, e = .returned (.slice ao (getF fs nm).length cv) ∧ OwnT w.heap.size w' (.slice ao (getF fs nm).length cv) (getF fs nm) ∧ Below W.heap.size W w') := fun nm hnm W i => (get_any fs a c nm W (hf.over i) (hb.mono (by decide)) (by omega) (by omega)).mono fun e w' ⟨ao, cv, q1, q2, q3⟩ => ⟨ao, cv, q1, q2.mono i.size, q3⟩
      have HRG : Hid (∀ nm : ByteArray, nm.size ≤ 1048576 → ∀ W, Below w.heap.size w W → Calls Tryd.prog 12 #[.slice a fs.length c, .string nm] W fun e w' => ∃ ao cv, e = .returned (.slice ao (getF fs nm).length cv) ∧ OwnT w.heap.size w' (.slice ao (getF fs nm).length cv) (getF fs nm) ∧ Below W.heap.size W w') := fun nm hnm W i => (rget_any fs a c nm W (hf.over i) hb hnm hl).mono fun e w' ⟨ao, cv, q1, q2, q3⟩ => ⟨ao, cv, q1, q2.mono i.size, q3⟩
      have HL : Hid (∀ nm : ByteArray, nm.size ≤ 1048576 → ∀ W, Below w.heap.size w W → Calls Tryd.prog 13 #[.slice a fs.length c, .string nm] W fun e w' => ∃ ao cv, e = .returned (.slice ao (listF fs nm).length cv) ∧ OwnT w.heap.size w' (.slice ao (listF fs nm).length cv) (listF fs nm) ∧ Below W.heap.size W w') := fun nm hnm W i => (list_any fs a c nm W (hf.over i) hb hnm hl (hM.below i)).mono fun e w' ⟨ao, cv, q1, q2, q3⟩ => ⟨ao, cv, q1, q2.mono i.size, q3⟩
      have HRL : Hid (∀ nm : ByteArray, nm.size ≤ 1048576 → ∀ W, Below w.heap.size w W → Calls Tryd.prog 14 #[.slice a fs.length c, .string nm] W fun e w' => ∃ ao cv, e = .returned (.slice ao (listF fs nm).length cv) ∧ OwnT w.heap.size w' (.slice ao (listF fs nm).length cv) (listF fs nm) ∧ Below W.heap.size W w') := fun nm hnm W i => (rlist_any fs a c nm W (hf.over i) hb hnm hl).mono fun e w' ⟨ao, cv, q1, q2, q3⟩ => ⟨ao, cv, q1, q2.mono i.size, q3⟩
      have HH : Hid (∀ nm : ByteArray, nm.size ≤ 1048576 → ∀ W, Below w.heap.size w W → Calls Tryd.prog 15 #[.slice a fs.length c, .string nm, .string part] W fun e w' => e = .returned (.bool (hasF fs nm part)) ∧ Below W.heap.size W w') := fun nm hnm W i => has_any fs a c nm part W (hf.over i) hb hnm hq hl (hM.below i)
      have HRH : Hid (∀ nm : ByteArray, nm.size ≤ 1048576 → ∀ W, Below w.heap.size w W → Calls Tryd.prog 16 #[.slice a fs.length c, .string nm, .string part] W fun e w' => e = .returned (.bool (hasF fs nm part)) ∧ Below W.heap.size W w') := fun nm hnm W i => rhas_any fs a c nm part W (hf.over i) hb hnm hq hl
      have HR : Hid (∀ W, Below w.heap.size w W → Calls Tryd.prog 17 #[.slice a fs.length c] W fun e w' => e = .returned (.bool (rightF fs)) ∧ Below W.heap.size W w') := fun W i => right_any fs a c W (hf.over i) (hb.mono (by decide))
      have HRR : Hid (∀ W, Below w.heap.size w W → Calls Tryd.prog 18 #[.slice a fs.length c] W fun e w' => e = .returned (.bool (rightF fs)) ∧ Below W.heap.size W w') := fun W i => rright_any fs a c W (hf.over i) (hb.mono (by decide))
      have HW : Hid (∀ W, Below w.heap.size w W → Calls Tryd.prog 20 #[.slice a fs.length c, .slice b ns.length d] W fun e w' => ∃ ao cv, e = .returned (.slice ao (withoutF fs ns).length cv) ∧ OwnF w.heap.size w' (.slice ao (withoutF fs ns).length cv) (withoutF fs ns) ∧ Below W.heap.size W w') := fun W i => (without_any fs a c ns b d W (hf.over i) (hb.mono (by decide)) (hn.over i) (fun x hx => Nat.le_trans (hnb x hx) (by decide)) (by omega)).mono fun e w' ⟨ao, cv, q1, q2, q3⟩ => ⟨ao, cv, q1, q2.mono i.size, q3⟩
      have HRW : Hid (∀ W, Below w.heap.size w W → Calls Tryd.prog 21 #[.slice a fs.length c, .slice b ns.length d] W fun e w' => ∃ ao cv, e = .returned (.slice ao (withoutF fs ns).length cv) ∧ OwnF w.heap.size w' (.slice ao (withoutF fs ns).length cv) (withoutF fs ns) ∧ Below W.heap.size W w') := fun W i => (rwithout_any fs a c ns b d W (hf.over i) hb (hn.over i) hnb (by omega)).mono fun e w' ⟨ao, cv, q1, q2, q3⟩ => ⟨ao, cv, q1, q2.mono i.size, q3⟩
      have HGL : Hid (∀ nm, (getF fs nm).length ≤ 1024) := fun nm => Nat.le_trans (getF_len fs nm) hl
      have HLL : Hid (∀ nm, (listF fs nm).length ≤ 1024 * 1048578) := fun nm => listF_len hb hl
      have HN : Hid (Txs w.heap.size w (.slice b ns.length d) ns) := hn
      have HNB : Hid (TBd 1048576 ns) := hnb
      clear hf hb hn hnb hq
      go_enter Tryd.func3, Tryd.ntmps3
      go_wp2_with fail
      refine (looking_any _ hM).mono ?_
      rintro e w1 ⟨rfl, B1⟩
      clear hM
      have fin : ∀ W, Below w.heap.size w W → True := fun _ _ => trivial
      rcases Nat.eq_zero_or_pos ns.length with h0 | hp
      · have he : ns = [] := List.eq_nil_of_length_eq_zero h0
        subst he
        clear h0 HN HNB
        go_wp2_with fail
        refine wp_loop_rounds 1 ?_
        rw [rounds_succ]
        go_wp2_with fail
        refine (HR.out _ B1).mono ?_
        rintro e w2 ⟨rfl, B2⟩
        have D2 := B1.trans (B2.mono B1.size)
        go_wp2_with fail
        refine (HRR.out _ D2).mono ?_
        rintro e w3 ⟨rfl, B3⟩
        have D3 := D2.trans (B3.mono D2.size)
        go_wp2_with fail
        refine (HW.out _ D3).mono ?_
        rintro e w4 ⟨a4, c4, rfl, O4, B4⟩
        have D4 := D3.trans (B4.mono D3.size)
        go_wp2_with fail
        refine (HRW.out _ D4).mono ?_
        rintro e w5 ⟨a5, c5, rfl, O5, B5⟩
        have D5 := D4.trans (B5.mono D4.size)
        have HS : Hid (Calls Tryd.prog 19 #[.slice a4 (withoutF fs []).length c4, .slice a5 (withoutF fs []).length c5] w5 fun e w' => e = .returned (.bool true) ∧ Below w5.heap.size w5 w') := rsame_eq _ a4 a5 c4 c5 w5 (O4.keep B5).fds O5.fds
        clear O4 O5 B2 B3 B4 B5
        generalize (withoutF fs []).length = LW at *
        go_wp2_with fail
        refine HS.out.mono ?_
        rintro e w6 ⟨rfl, B6⟩
        go_wp2
        go_ret
        exact ⟨ret_bool (by simp), D5.trans (B6.mono D5.size)⟩
      · obtain ⟨b', d', e, hnil, q1, q2, q3⟩ := HN.out
        obtain ⟨rfl, _, rfl⟩ := slice_inj e
        obtain ⟨g, off, rfl, hg, hc⟩ := q3 hp
        have HC : Hid (∀ (j : Nat) (hj : j < ns.length), w.cell? ⟨g, off + j, none⟩ = some (.string ns[j])) := hc
        clear e hnil q1 q2 q3 hc
        go_wp2_with fail
        go_loopw [21] (fun vi wr => ∃ k : Nat, k ≤ ns.length ∧ vi = .int .i64 k ∧ Below w.heap.size w wr) (fun vi _ => ns.length - (intOf vi).toNat)
        case atStart => exact ⟨0, Nat.zero_le _, rfl, B1⟩
        case round =>
          obtain ⟨k, hk, rfl, hB⟩ := hrel
          clear B1
          by_cases hlt : k < ns.length
          · have hc1 := (hB.cell (p := ⟨g, off + k, none⟩) hg).trans (HC.out k hlt)
            have hsz : Hid (ns[k].size ≤ 1048576) := HNB.out ns[k] (List.getElem_mem hlt)
            generalize ns[k] = x at *
            go_wp2_with fail
            refine (HG.out x hsz.out _ hB).mono ?_
            rintro e w2 ⟨a2, c2, rfl, O2, B2⟩
            have D2 := hB.trans (B2.mono hB.size)
            go_wp2_with fail
            refine (HRG.out x hsz.out _ D2).mono ?_
            rintro e w3 ⟨a3, c3, rfl, O3, B3⟩
            have D3 := D2.trans (B3.mono D2.size)
            have HS1 : Hid (Calls Tryd.prog 10 #[.slice a2 (getF fs x).length c2, .slice a3 (getF fs x).length c3] w3 fun e w' => e = .returned (.bool true) ∧ Below w3.heap.size w3 w') := sameTexts_eq _ _ _ a2 a3 c2 c3 w3 (by have := HGL.out x; unfold maxLen; omega) (O2.keep B3) O3
            clear O2 O3 B2 B3 D2 hB
            generalize (getF fs x).length = LG at *
            go_wp2_with fail
            refine HS1.out.mono ?_
            rintro e w4 ⟨rfl, B4⟩
            have D4 := D3.trans (B4.mono D3.size)
            clear B4 D3 HS1
            go_wp2_with fail
            refine (HL.out x hsz.out _ D4).mono ?_
            rintro e w5 ⟨a5, c5, rfl, O5, B5⟩
            have D5 := D4.trans (B5.mono D4.size)
            go_wp2_with fail
            refine (HRL.out x hsz.out _ D5).mono ?_
            rintro e w6 ⟨a6, c6, rfl, O6, B6⟩
            have D6 := D5.trans (B6.mono D5.size)
            have HS2 : Hid (Calls Tryd.prog 10 #[.slice a5 (listF fs x).length c5, .slice a6 (listF fs x).length c6] w6 fun e w' => e = .returned (.bool true) ∧ Below w6.heap.size w6 w') := sameTexts_eq _ _ _ a5 a6 c5 c6 w6 (by have := HLL.out x; unfold maxLen; omega) (O5.keep B6) O6
            clear O5 O6 B5 B6 D5 D4
            generalize (listF fs x).length = LL at *
            go_wp2_with fail
            refine HS2.out.mono ?_
            rintro e w7 ⟨rfl, B7⟩
            have D7 := D6.trans (B7.mono D6.size)
            clear B7 D6 HS2
            go_wp2_with fail
            refine (HH.out x hsz.out _ D7).mono ?_
            rintro e w8 ⟨rfl, B8⟩
            have D8 := D7.trans (B8.mono D7.size)
            go_wp2_with fail
            refine (HRH.out x hsz.out _ D8).mono ?_
            rintro e w9 ⟨rfl, B9⟩
            have D9 := D8.trans (B9.mono D8.size)
            have hnn : ∀ t : Bool, (t != t) = false := by intro t; cases t <;> rfl
            clear B8 B9 D7 D8 hc1
            go_wp2
            go_roundw
            case rel => exact ⟨k + 1, by omega, by go_num, D9⟩
            case measure => simp [intOf]; omega
          · clear HG HRG HL HRL HH HRH HGL HLL
            go_wp2_with fail
            refine (HR.out _ hB).mono ?_
            rintro e w2 ⟨rfl, B2⟩
            have D2 := hB.trans (B2.mono hB.size)
            go_wp2_with fail
            refine (HRR.out _ D2).mono ?_
            rintro e w3 ⟨rfl, B3⟩
            have D3 := D2.trans (B3.mono D2.size)
            have hnn : ∀ t : Bool, (t == t) = true := by intro t; cases t <;> rfl
            go_wp2_with fail
            refine (HW.out _ D3).mono ?_
            rintro e w4 ⟨a4, c4, rfl, O4, B4⟩
            have D4 := D3.trans (B4.mono D3.size)
            go_wp2_with fail
            refine (HRW.out _ D4).mono ?_
            rintro e w5 ⟨a5, c5, rfl, O5, B5⟩
            have D5 := D4.trans (B5.mono D4.size)
            have HS : Hid (Calls Tryd.prog 19 #[.slice a4 (withoutF fs ns).length c4, .slice a5 (withoutF fs ns).length c5] w5 fun e w' => e = .returned (.bool true) ∧ Below w5.heap.size w5 w') := rsame_eq _ a4 a5 c4 c5 w5 (O4.keep B5).fds O5.fds
            clear O4 O5 B2 B3 B4 B5 D2 D3 D4
            generalize (withoutF fs ns).length = LW at *
            go_wp2_with fail
            refine HS.out.mono ?_
            rintro e w6 ⟨rfl, B6⟩
            go_wp2
            go_ret
            exact ⟨ret_bool (by simp), D5.trans (B6.mono D5.size)⟩
end Go.Proofs.YtflgjhknobnnaabDoor
