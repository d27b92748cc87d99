/- Texts that the proof leans on, one behind the other: LnP HtC HtD HtE HtG OwG FldL LnT LnF LvA HtH HtW -/
import Derived.Test.YtajfjjmabncldaaGreatDoorSk3
import Derived.Test.YtajfjjmabncldaaGreatDoorSk4
import Derived.Test.YtajfjjmabncldaaGreatDoorSk2
import Derived.Lib.AppendStr
import Derived.Lib.AppendIntMem
import Derived.Lib.LaidTab
import Derived.LaidSub
import Derived.MakeChecks
import Derived.Deep.RegionHeld3
/- A new block, and what is older, behind what keeps both (split off LnF). -/
namespace Go.Proofs.YtajfjjmabncldaaGreatDoor
open Go.RowKit
set_option linter.unusedVariables false

structure PI (w : World) (o : Obj) (W : World) : Prop where
  below : Below w.heap.size w W
  own : W.heap[w.heap.size]? = some o
theorem PI.drew {w W : World} {o : Obj} (h : PI w o W) : PI w o W.drew := ⟨h.below.drew, h.own⟩
theorem PI.next {w W W' : World} {o : Obj} (h : PI w o W) (k : Below W.heap.size W W') : PI w o W' := ⟨h.below.trans (k.mono h.below.size), tblk_below h.own k⟩
theorem PI.new (w : World) (o : Obj) : PI w o (w.alloc o) := ⟨(Below.refl _ _).alloc (Nat.le_refl _) _, tblk_new w o⟩
end Go.Proofs.YtajfjjmabncldaaGreatDoor

/- Package http: the lines of a request's head. -/
namespace Go.Proofs.YtajfjjmabncldaaGreatDoor
open Go.RowKit
set_option linter.unusedVariables false

set_option maxRecDepth 100000 in
set_option maxHeartbeats 2000000 in
theorem head1_any (s : ByteArray) (Y0 Y1 Y2 Y3 Y4 : Value) (u W : World) (hP : PI u (.cells #[Y0, Y1, Y2, Y3, Y4] 25) W) (hs : s.size < 4294967281) (hM : MaxL u) :
    Calls Tryz.prog 103 #[.string s, .pointer (some ⟨u.heap.size, 0, none⟩)] W fun e w' => e = .returned (.int .i64 (rqSt s)) ∧ PI u (.cells #[.string (rqP s).method, .string (rqP s).target, .int .i64 (rqP s).minor, .slice none 0 0, .slice none 0 0] 25) w' ∧ W.heap.size ≤ w'.heap.size := by
  have HL : Hid (Calls Tryz.prog 104 #[.string s] W fun e w' => e = .returned (.tuple #[.agg #[.string (rqP s).method, .string (rqP s).target, .int .i64 (rqP s).minor, .slice none 0 0, .slice none 0 0], .int .i64 (rqSt s)]) ∧ Below W.heap.size W w') := lreq_any s W hs (hM.below hP.below)
  have HP : Hid _ := hP
  clear hs hM hP
  generalize rqSt s = st at *
  generalize (rqP s).method = m at *
  generalize (rqP s).target = t at *
  generalize (rqP s).minor = mi at *
  go_enter Tryz.func103, Tryz.ntmps103
  go_wp2_with fail
  refine HL.out.mono ?_
  rintro e w1 ⟨rfl, B1⟩
  have P1 := HP.out.next B1
  have hg2 := P1.own
  have HW := five_cells hg2 (.string m) (.string t) (.int .i64 mi) (.slice none 0 0) (.slice none 0 0)
  have HB := five_below (.string m) (.string t) (.int .i64 mi) (.slice none 0 0) (.slice none 0 0) P1.below (Nat.le_refl _)
  have a0 := tblk_cell (i := 0) hg2 rfl
  have z0 := lblk_z (i := 0) hg2
  have a1 := tblk_cell (i := 1) hg2 rfl
  have z1 := lblk_z (i := 1) hg2
  have a2 := tblk_cell (i := 2) hg2 rfl
  have z2 := lblk_z (i := 2) hg2
  have a3 := tblk_cell (i := 3) hg2 rfl
  have z3 := lblk_z (i := 3) hg2
  have a4 := tblk_cell (i := 4) hg2 rfl
  have z4 := lblk_z (i := 4) hg2
  have hsz : Hid (W.heap.size ≤ (five w1 u.heap.size (.string m) (.string t) (.int .i64 mi) (.slice none 0 0) (.slice none 0 0)).heap.size) := by
    rw [Hid]; unfold five; simp; exact B1.size
  have HX : Hid (PI u (.cells #[.string m, .string t, .int .i64 mi, .slice none 0 0, .slice none 0 0] 25) (five w1 u.heap.size (.string m) (.string t) (.int .i64 mi) (.slice none 0 0) (.slice none 0 0))) := ⟨HB, HW⟩
  unfold five at HX hsz
  clear HB HW hg2 P1 B1 HL HP
  go_wp2
  go_ret
  exact ⟨rfl, HX.out, hsz.out⟩

set_option maxRecDepth 100000 in
set_option maxHeartbeats 4000000 in
theorem readA_any (b : List UInt8) (kb c : Nat) (a : Option Addr) (Y0 Y1 Y2 Y3 Y4 : Value) (u W : World) (hP : PI u (.cells #[Y0, Y1, Y2, Y3, Y4] 25) W) (hs : Src u kb (.slice a b.length c) b) (hk : 0 < b.length → kb < u.heap.size) (hM : MaxL u) :
    Calls Tryz.prog 102 #[.slice a b.length c, .func (.func 103) #[] #[.pointer (some ⟨u.heap.size, 0, none⟩)]] W fun e w' => ∃ fa fc, e = .returned (.tuple #[.slice fa (headL rqSt b).1.length fc, .int .i64 ((headL rqSt b).2.1 : Nat), .int .i64 (headL rqSt b).2.2]) ∧ OwnF W.heap.size w' (.slice fa (headL rqSt b).1.length fc) (headL rqSt b).1 ∧
      ∃ o, PI u o w' ∧ (¬ (headL rqSt b).2.1 = 0 → o = .cells #[.string (rqP (firstL b)).method, .string (rqP (firstL b)).target, .int .i64 (rqP (firstL b)).minor, .slice none 0 0, .slice none 0 0] 25) := by
  have hlen := hs.len
  obtain ⟨n, hn⟩ : ∃ n, n = b.length := ⟨_, rfl⟩
  have HN : Hid (n = b.length) := hn
  have HCUT : Hid (∀ (X : World) (at_ : Nat), Below u.heap.size u X → at_ ≤ min 2048 n → Calls Tryz.prog 135 #[.slice a n c, .int .i64 (at_ : Nat)] X fun e w' => e = .returned (hcutV b at_) ∧ w' = X) := fun X at_ hX ha => by
    have k := hcut_any b kb c a at_ X (hs.keep hk hX) (by omega)
    rw [← hn] at k
    exact k
  have HOK : Hid (FlOk 40 (min 2048 b.length) (headL rqSt b)) := headL_ok _ _
  have hcc := cut_cases 2048 (b.take 2048)
  have hltk : (b.take 2048).length = min 2048 n := by rw [List.length_take, HN.out]
  rw [← hn]
  clear hs hk hlen hn
  have HPar : Hid (∀ (X : World) (s : ByteArray), Below u.heap.size u X → s.size ≤ 2048 → Calls Tryz.prog 136 #[.string s] X fun e w' => e = .returned (.tuple #[.agg #[.string (prs s).1, .string (prs s).2.1], .int .i64 (prs s).2.2]) ∧ Below X.heap.size X w') := fun X s hX hz => parse_any s X (by omega) (hM.below hX)
  have HTell : Hid (∀ s : ByteArray, s.size ≤ 2048 → Calls Tryz.prog 103 #[.string s, .pointer (some ⟨u.heap.size, 0, none⟩)] W fun e w' => e = .returned (.int .i64 (rqSt s)) ∧ PI u (.cells #[.string (rqP s).method, .string (rqP s).target, .int .i64 (rqP s).minor, .slice none 0 0, .slice none 0 0] 25) w' ∧ W.heap.size ≤ w'.heap.size) := fun s hz => head1_any s _ _ _ _ _ u W hP (by omega) hM
  have hr0 : roomL b 0 = b.take 2048 := rfl
  have HP : Hid (PI u (.cells #[Y0, Y1, Y2, Y3, Y4] 25) W) := hP
  clear hP hM
  rcases hcc with ⟨i, hc, hl, _⟩ | ⟨er, hc⟩
  · have hv := hcutV_hit (b := b) (at_ := 0) (by rw [hr0]; exact hc)
    rw [hr0] at hv
    have hz : Hid ((tx ((b.take 2048).take i)).size ≤ 2048) := by rw [Hid, tx_size, List.length_take]; omega
    have hfl : firstL b = tx ((b.take 2048).take i) := firstL_hit hc
    rw [hltk] at hl
    by_cases hst : rqSt (tx ((b.take 2048).take i)) = 0
    · have HH : Hid (headL rqSt b = plusH [] (i + 2) (fldL (fullB b) 40 (roomL b (i + 2)))) := headL_hit hc hst
      have HT2 : Hid (Calls Tryz.prog 103 #[.string (tx ((b.take 2048).take i)), .pointer (some ⟨u.heap.size, 0, none⟩)] W fun e w' => e = .returned (.int .i64 0) ∧ PI u (.cells #[.string (rqP (tx ((b.take 2048).take i))).method, .string (rqP (tx ((b.take 2048).take i))).target, .int .i64 (rqP (tx ((b.take 2048).take i))).minor, .slice none 0 0, .slice none 0 0] 25) w' ∧ W.heap.size ≤ w'.heap.size) := by
        have k := HTell.out _ hz.out
        rw [hst] at k
        exact k
      have HC2 : Hid (Calls Tryz.prog 135 #[.slice a n c, .int .i64 0] W fun e w' => e = .returned (.tuple #[.string (tx ((b.take 2048).take i)), .int .i64 ((i : Int) + 2), .int .i64 0]) ∧ w' = W) := by
        have k := HCUT.out W 0 HP.out.below (Nat.zero_le _)
        rw [hv] at k
        exact k
      rw [hfl]
      have hii : i ≤ 2046 := by omega
      have hii2 : ¬ ((i : Int) + 2) = 0 := by omega
      have hii3 : (((i : Int) + 2) == 0) = false := by simpa using hii2
      generalize tx ((b.take 2048).take i) = first at *
      generalize hR : headL rqSt b = R at *
      have HR : Hid (headL rqSt b = R) := hR
      clear hR hst hc hv HTell hltk hr0 hfl
      go_enter Tryz.func102, Tryz.ntmps102
      go_wp2_with fail
      refine HC2.out.mono ?_
      rintro e w1 ⟨rfl, rfl⟩
      go_wp2_with fail
      refine HT2.out.mono ?_
      rintro e w2 ⟨rfl, P2, hsz2⟩
      have HP2 : Hid (PI u (.cells #[.string (rqP first).method, .string (rqP first).target, .int .i64 (rqP first).minor, .slice none 0 0, .slice none 0 0] 25) w2) := P2
      clear HC2 HT2 P2 HP
      have hst0 : i + 2 ≤ min 2048 n := by omega
      go_wp2_with fail
      go_loopw [8, 11] (fun va vf wr => ∃ (at_ : Nat) (acc : Fs) (fa : Option Addr) (fc : Nat), at_ ≤ min 2048 n ∧ 0 < at_ ∧ acc.length ≤ 40 ∧ va = .int .i64 at_ ∧ vf = .slice fa acc.length fc ∧ OwnF w2.heap.size wr vf acc ∧ Hid (R = plusH acc at_ (fldL (fullB b) (40 - acc.length) (roomL b at_))) ∧ Below w2.heap.size w2 wr) (fun va _ _ => n - (intOf va).toNat)
      case atStart => exact ⟨i + 2, [], none, 0, hst0, by omega, Nat.zero_le _, by go_num, rfl, OwnF.nil _ _, HH, Below.refl _ _⟩
      case round =>
        obtain ⟨at_, acc, fa, fc, hat, hat0, hacc, rfl, rfl, hO, hR, hB⟩ := hrel
        have hPw := HP2.out.next hB
        have HCr := HCUT.out wr at_ hPw.below hat
        have hroom : (roomL b at_).length = min 2048 n - at_ := by unfold roomL; rw [List.length_drop, List.length_take, HN.out]
        rcases cut_cases 2048 (roomL b at_) with ⟨j, hc, hl, _⟩ | ⟨er, hc⟩
        · rw [hcutV_hit hc] at HCr
          rw [hroom] at hl
          have HC3 : Hid (Calls Tryz.prog 135 #[.slice a n c, .int .i64 (at_ : Nat)] wr fun e w' => e = .returned (.tuple #[.string (tx ((roomL b at_).take j)), .int .i64 ((j : Int) + 2), .int .i64 0]) ∧ w' = wr) := HCr
          have hjj : j ≤ 2046 := by omega
          have hj2 : ¬ ((j : Int) + 2) = 0 := by omega
          have hj3 : (((j : Int) + 2) == 0) = false := by simpa using hj2
          by_cases h0 : j = 0
          · subst h0
            have HE : Hid (R = (acc, at_ + 2, 0)) := by
              rw [Hid, hR.out, fldL_end hc]
              unfold plusH
              rw [if_neg (by decide), List.append_nil]
            have HC4 : Hid (Calls Tryz.prog 135 #[.slice a n c, .int .i64 (at_ : Nat)] wr fun e w' => e = .returned (.tuple #[.string ⟨#[]⟩, .int .i64 2, .int .i64 0]) ∧ w' = wr) := HC3.out
            clear hR hc HCr HC3 hroom hj2 hj3
            have HO2 : Hid (OwnF w2.heap.size wr (.slice fa acc.length fc) acc) := hO
            have HPw : Hid _ := hPw
            clear hO hPw
            go_wp2_with fail
            refine HC4.out.mono ?_
            rintro e w3 ⟨rfl, rfl⟩
            go_wp2
            refine bodyPost_ret (v := .tuple #[.slice fa acc.length fc, .int .i64 ((at_ : Int) + 2), .int .i64 0]) (by simp [results, Tryz.results102, go_sem]) rfl ?_
            rw [HE.out]
            exact ⟨fa, fc, rfl, HO2.out.mono hsz2, _, HPw.out, fun _ => rfl⟩
          · have hs2 : (tx ((roomL b at_).take j)).size = j := by rw [tx_size, List.length_take, hroom]; omega
            have hsz : Hid ((tx ((roomL b at_).take j)).size ≤ 2048) := by rw [Hid, hs2]; omega
            have hne : (tx ((roomL b at_).take j)).toList.isEmpty = false := isEmpty_of (by rw [hs2]; exact h0)
            have HPr : Hid (Calls Tryz.prog 136 #[.string (tx ((roomL b at_).take j))] wr fun e w' => e = .returned (.tuple #[.agg #[.string (prs (tx ((roomL b at_).take j))).1, .string (prs (tx ((roomL b at_).take j))).2.1], .int .i64 (prs (tx ((roomL b at_).take j))).2.2]) ∧ Below wr.heap.size wr w') := HPar.out wr _ hPw.below hsz.out
            cases hf : fldOk ((roomL b at_).take j)
            · have HE : Hid (R = ([], 0, 400)) := by rw [Hid, hR.out, fldL_bad hc h0 hf, plusH_err]
              have hpe : ((prs (tx ((roomL b at_).take j))).2.2 != 0) = true := by
                unfold fldOk at hf
                simpa using hf
              clear hR hc HCr hroom hs2 hsz hf
              generalize prs (tx ((roomL b at_).take j)) = pr at *
              generalize tx ((roomL b at_).take j) = s at *
              obtain ⟨p1, p2, p3⟩ := pr
              simp only at HPr hpe
              have HPw : Hid _ := hPw
              clear hO hPw
              go_wp2_with fail
              refine HC3.out.mono ?_
              rintro e w3 ⟨rfl, rfl⟩
              go_wp2_with fail
              refine HPr.out.mono ?_
              rintro e w4 ⟨rfl, B4⟩
              have P4 := (HPw.out.next B4).next ((Below.refl _ _).alloc (Nat.le_refl _) (.cells #[.string p1, .string p2] 34))
              have HP4 : Hid _ := P4
              clear P4 HPw B4
              go_wp2
              refine bodyPost_ret (v := .tuple #[.slice none 0 0, .int .i64 0, .int .i64 400]) (by simp [results, Tryz.results102, go_sem]) rfl ?_
              rw [HE.out]
              exact ⟨none, 0, rfl, OwnF.nil _ _, _, HP4.out, fun _ => rfl⟩
            · have hpe : (prs (tx ((roomL b at_).take j))).2.2 = 0 := by
                unfold fldOk at hf
                simpa using hf
              have hfo : fOf ((roomL b at_).take j) = ((prs (tx ((roomL b at_).take j))).1, (prs (tx ((roomL b at_).take j))).2.1) := rfl
              by_cases h40 : acc.length = 40
              · have HE : Hid (R = ([], 0, 431)) := by rw [Hid, hR.out, h40, fldL_many hc h0 hf, plusH_err]
                have hAL : ((acc.length : Nat) : Int) = 40 := by omega
                clear hR hc HCr hroom hs2 hsz hf hfo
                generalize prs (tx ((roomL b at_).take j)) = pr at *
                generalize tx ((roomL b at_).take j) = s at *
                obtain ⟨p1, p2, p3⟩ := pr
                simp only at HPr hpe
                subst hpe
                have HPw : Hid _ := hPw
                clear hO hPw
                rw [h40]
                go_wp2_with fail
                refine HC3.out.mono ?_
                rintro e w3 ⟨rfl, rfl⟩
                go_wp2_with fail
                refine HPr.out.mono ?_
                rintro e w4 ⟨rfl, B4⟩
                have P4 := (HPw.out.next B4).next ((Below.refl _ _).alloc (Nat.le_refl _) (.cells #[.string p1, .string p2] 34))
                have HP4 : Hid _ := P4
                clear P4 HPw B4
                go_wp2
                refine bodyPost_ret (v := .tuple #[.slice none 0 0, .int .i64 0, .int .i64 431]) (by simp [results, Tryz.results102, go_sem]) rfl ?_
                rw [HE.out]
                exact ⟨none, 0, rfl, OwnF.nil _ _, _, HP4.out, fun _ => rfl⟩
              · have HE : Hid (R = plusH (acc ++ [((prs (tx ((roomL b at_).take j))).1, (prs (tx ((roomL b at_).take j))).2.1)]) (at_ + (j + 2)) (fldL (fullB b) (40 - (acc.length + 1)) (roomL b (at_ + (j + 2))))) := by
                  rw [Hid, hR.out]
                  obtain ⟨r, hr⟩ : ∃ r, 40 - acc.length = r + 1 := ⟨40 - acc.length - 1, by omega⟩
                  rw [hr, fldL_next hc h0 hf, plusH_plusH _ _ _ _ _ (by omega), hfo]
                  have e1 : 40 - (acc.length + 1) = r := by omega
                  have e2 : (roomL b at_).drop (j + 2) = roomL b (at_ + (j + 2)) := by unfold roomL; rw [List.drop_drop]
                  rw [e1, e2]
                have hAL : ¬ ((acc.length : Nat) : Int) = 40 := by omega
                have hAL2 : (((acc.length : Nat) : Int) == 40) = false := by simpa using hAL
                clear hR hc HCr hroom hs2 hsz hf hfo
                generalize prs (tx ((roomL b at_).take j)) = pr at *
                generalize tx ((roomL b at_).take j) = s at *
                obtain ⟨p1, p2, p3⟩ := pr
                simp only at HPr hpe HE
                subst hpe
                have HO2 : Hid (OwnF w2.heap.size wr (.slice fa acc.length fc) acc) := hO
                have HAC : Hid (acc.length + 1 ≤ 40) := by rw [Hid]; omega
                have HHB : Hid _ := hB
                clear hO hPw hB hacc h40
                generalize hal : acc.length = al at *
                have HAL3 : Hid (acc.length = al) := hal
                clear hal
                go_wp2_with fail
                refine HC3.out.mono ?_
                rintro e w3 ⟨rfl, rfl⟩
                go_wp2_with fail
                refine HPr.out.mono ?_
                rintro e w4 ⟨rfl, B4⟩
                have D4 := B4.alloc B4.size (.cells #[.string p1, .string p2] 34)
                have g4 : (w4.alloc (.cells #[.string p1, .string p2] 34)).heap[w4.heap.size]? = some (.cells #[.string p1, .string p2] 34) := tblk_new _ _
                have c0 : (w4.alloc (.cells #[.string p1, .string p2] 34)).cell? ⟨w4.heap.size, 0, none⟩ = some (.string p1) := tblk_cell g4 rfl
                have c1 : (w4.alloc (.cells #[.string p1, .string p2] 34)).cell? ⟨w4.heap.size, 1, none⟩ = some (.string p2) := tblk_cell g4 rfl
                have own4 := HO2.out.keep D4
                have B5 := HHB.out.trans (D4.mono HHB.out.size)
                clear g4 B4 D4 HPr HC3
                have own5 := own4.keep ((Below.refl _ _).alloc (Nat.le_refl _) (.cells #[.string p1, .string p2] 34))
                obtain ⟨v6, w6, r6, own6, B6⟩ := ownF_append own5 (fds_new (w4.alloc (.cells #[.string p1, .string p2] 34)) p1 p2) (by have := HAC.out; have := HAL3.out; simp; omega) (Nat.le_trans B5.size (by simp))
                have e5 : (w4.alloc (.cells #[.string p1, .string p2] 34)).heap.size = w4.heap.size + 1 := by simp
                have B7 : Below w2.heap.size w2 w6 := (B5.alloc B5.size _).trans B6
                obtain ⟨a6, c6, rfl, _⟩ := own6.form
                have HO6 : Hid (OwnF w2.heap.size w6 (.slice a6 (acc ++ [(p1, p2)]).length c6) (acc ++ [(p1, p2)])) := own6
                have HL : Hid ((acc ++ [(p1, p2)]).length = al + 1) := by rw [Hid, List.length_append, HAL3.out]; rfl
                obtain ⟨L, hL⟩ : ∃ L, L = (acc ++ [(p1, p2)]).length := ⟨_, rfl⟩
                have HR6 : Hid ((Builtin.append_ #[22, 22] 22 #[.slice fa al fc, .slice (some ⟨w4.heap.size + 1, 0, none⟩) 1 1]).run Tryz.prog ((w4.alloc (.cells #[.string p1, .string p2] 34)).alloc (.cells #[.string p1, .string p2] 34)) = .ok (.slice a6 L c6) w6) := by rw [Hid, hL, ← e5]; exact r6
                have HLL : Hid (L = (acc ++ [(p1, p2)]).length) := hL
                have HB7 : Hid _ := B7
                clear own4 own5 own6 B5 B6 B7 r6 hL e5
                go_wp2_with (at_builtin; refine wpList_append_run2 rfl _ _ 22 22 rfl _ _ _ w6 rfl rfl HR6.out ?_)
                go_roundw
                case rel => exact ⟨at_ + (j + 2), acc ++ [(p1, p2)], a6, c6, by omega, by omega, by have := HL.out; have := HAC.out; have := HAL3.out; omega, by go_num, by rw [HLL.out], (by rw [HLL.out]; exact HO6.out), (by rw [HL.out]; exact HE), HB7.out⟩
                case measure => simp [intOf]; omega
        · rw [hcutV_miss hc] at HCr
          have HE : Hid (R = ([], 0, hst (fullB b) er)) := by rw [Hid, hR.out, fldL_miss hc, plusH_err]
          have HC3 : Hid (Calls Tryz.prog 135 #[.slice a n c, .int .i64 (at_ : Nat)] wr fun e w' => e = .returned (.tuple #[.string ⟨#[]⟩, .int .i64 0, .int .i64 (hst (fullB b) er)]) ∧ w' = wr) := HCr
          have HPw : Hid _ := hPw
          clear hR hc HCr hroom hO hPw
          generalize hst (fullB b) er = st at *
          go_wp2_with fail
          refine HC3.out.mono ?_
          rintro e w3 ⟨rfl, rfl⟩
          go_wp2
          refine bodyPost_ret (v := .tuple #[.slice none 0 0, .int .i64 0, .int .i64 st]) (by simp [results, Tryz.results102, go_sem]) rfl ?_
          rw [HE.out]
          exact ⟨none, 0, rfl, OwnF.nil _ _, _, HPw.out, fun _ => rfl⟩
    · have HH : Hid (headL rqSt b = ([], 0, rqSt (tx ((b.take 2048).take i)))) := headL_bad hc hst
      have HT2 : Hid (Calls Tryz.prog 103 #[.string (tx ((b.take 2048).take i)), .pointer (some ⟨u.heap.size, 0, none⟩)] W fun e w' => e = .returned (.int .i64 (rqSt (tx ((b.take 2048).take i)))) ∧ PI u (.cells #[.string (rqP (tx ((b.take 2048).take i))).method, .string (rqP (tx ((b.take 2048).take i))).target, .int .i64 (rqP (tx ((b.take 2048).take i))).minor, .slice none 0 0, .slice none 0 0] 25) w' ∧ W.heap.size ≤ w'.heap.size) := HTell.out _ hz.out
      have HC2 : Hid (Calls Tryz.prog 135 #[.slice a n c, .int .i64 0] W fun e w' => e = .returned (.tuple #[.string (tx ((b.take 2048).take i)), .int .i64 ((i : Int) + 2), .int .i64 0]) ∧ w' = W) := by
        have k := HCUT.out W 0 HP.out.below (Nat.zero_le _)
        rw [hv] at k
        exact k
      have hii : i ≤ 2046 := by omega
      have hii2 : ¬ ((i : Int) + 2) = 0 := by omega
      have hii3 : (((i : Int) + 2) == 0) = false := by simpa using hii2
      generalize tx ((b.take 2048).take i) = first at *
      have hst2 : (rqSt first != 0) = true := by simpa using hst
      generalize headL rqSt b = R at *
      generalize rqSt first = stt at *
      clear hst hc hv HTell hltk hr0 hfl
      go_enter Tryz.func102, Tryz.ntmps102
      go_wp2_with fail
      refine HC2.out.mono ?_
      rintro e w1 ⟨rfl, rfl⟩
      go_wp2_with fail
      refine HT2.out.mono ?_
      rintro e w2 ⟨rfl, P2, hsz2⟩
      have HP2 : Hid _ := P2
      clear P2
      go_wp2
      refine bodyPost_ret (v := .tuple #[.slice none 0 0, .int .i64 0, .int .i64 stt]) (by simp [results, Tryz.results102, go_sem]) rfl ?_
      rw [HH.out]
      exact ⟨none, 0, rfl, OwnF.nil _ _, _, HP2.out, fun k => absurd rfl k⟩
  · have hv := hcutV_miss (b := b) (at_ := 0) (by rw [hr0]; exact hc)
    have HH : Hid (headL rqSt b = ([], 0, hst (fullB b) er)) := headL_miss hc
    have HC2 : Hid (Calls Tryz.prog 135 #[.slice a n c, .int .i64 0] W fun e w' => e = .returned (.tuple #[.string ⟨#[]⟩, .int .i64 0, .int .i64 (hst (fullB b) er)]) ∧ w' = W) := by
      have k := HCUT.out W 0 HP.out.below (Nat.zero_le _)
      rw [hv] at k
      exact k
    generalize headL rqSt b = R at *
    generalize hst (fullB b) er = stt at *
    clear hc hv HTell hltk hr0
    go_enter Tryz.func102, Tryz.ntmps102
    go_wp2_with fail
    refine HC2.out.mono ?_
    rintro e w1 ⟨rfl, rfl⟩
    go_wp2
    refine bodyPost_ret (v := .tuple #[.slice none 0 0, .int .i64 0, .int .i64 stt]) (by simp [results, Tryz.results102, go_sem]) rfl ?_
    rw [HH.out]
    exact ⟨none, 0, rfl, OwnF.nil _ _, _, HP.out, fun k => absurd rfl k⟩
end Go.Proofs.YtajfjjmabncldaaGreatDoor

/- Package http: the head of a request. -/
namespace Go.Proofs.YtajfjjmabncldaaGreatDoor
open Go.RowKit
set_option linter.unusedVariables false

theorem bd_big {fs : Fs} (h : FBd 1000 fs) : FBd 1048576 fs := h.mono (by decide)
theorem bd_huge {fs : Fs} (h : FBd 1000 fs) : FBd 140737488355328 fs := h.mono (by decide)

set_option maxRecDepth 100000 in
set_option maxHeartbeats 2000000 in
theorem rhosts_any (m t : ByteArray) (minor : Int) (fs : Fs) (a b : Option Addr) (c x y : Nat) (w : World) (hf : Fds w.heap.size w (.slice a fs.length c) fs) (hb : FBd 1000 fs) (hl : fs.length ≤ 1024) :
    Calls Tryz.prog 142 #[.agg #[.string m, .string t, .int .i64 minor, .slice a fs.length c, .slice b x y]] w fun e w' => e = .returned (.bool (hostsOk (getF fs tHost) minor)) ∧ Below w.heap.size w w' := by
  have hg0 := tblk_new w (.cells #[.string m, .string t, .int .i64 minor, .slice a fs.length c, .slice b x y] 25)
  have C0 : Below w.heap.size w (w.alloc (.cells #[.string m, .string t, .int .i64 minor, .slice a fs.length c, .slice b x y] 25)) := (Below.refl _ _).alloc (Nat.le_refl _) _
  have HG : Hid (Calls Tryz.prog 67 #[.slice a fs.length c, .string ⟨#[72, 111, 115, 116]⟩] (w.alloc (.cells #[.string m, .string t, .int .i64 minor, .slice a fs.length c, .slice b x y] 25)) fun e w' => ∃ ao cv, e = .returned (.slice ao (getF fs tHost).length cv) ∧ OwnT (w.heap.size + 1) w' (.slice ao (getF fs tHost).length cv) (getF fs tHost) ∧ Below w.heap.size w w' ∧ w'.heap[w.heap.size]? = some (.cells #[.string m, .string t, .int .i64 minor, .slice a fs.length c, .slice b x y] 25)) := by
    refine (get_any fs a c tHost _ (hf.over C0) (bd_huge hb) (by decide) (by omega)).mono ?_
    rintro e w' ⟨ao, cv, he, hO, hB⟩
    exact ⟨ao, cv, he, (by have k := hO; simpa using k), C0.trans (hB.mono C0.size), tblk_below hg0 hB⟩
  have hbd : Hid (TBd 1000 (getF fs tHost)) := getF_bd hb
  generalize getF fs tHost = hs at *
  clear hf hb hl hg0 C0
  match hs, HG, hbd with
  | [], HG, _ =>
    show Calls Tryz.prog 142 _ w fun e w' => e = .returned (.bool (!(minor == 1))) ∧ Below w.heap.size w w'
    have HG2 : Hid (Calls Tryz.prog 67 #[.slice a fs.length c, .string ⟨#[72, 111, 115, 116]⟩] (w.alloc (.cells #[.string m, .string t, .int .i64 minor, .slice a fs.length c, .slice b x y] 25)) fun e w' => ∃ ao cv, e = .returned (.slice ao 0 cv) ∧ Below w.heap.size w w' ∧ w'.cell? ⟨w.heap.size, 2, none⟩ = some (.int .i64 minor)) := by
      refine HG.out.mono ?_
      rintro e w' ⟨ao, cv, he, _, hB, hg⟩
      exact ⟨ao, cv, he, hB, tblk_cell hg rfl⟩
    clear HG
    go_enter Tryz.func142, Tryz.ntmps142
    go_wp2_with fail
    refine HG2.out.mono ?_
    rintro e w1 ⟨ao, cv, rfl, B1, q⟩
    go_wp2
    go_ret
    exact ⟨ret_bool (by simp [bne]), B1⟩
  | h :: r, HG, hbd =>
    show Calls Tryz.prog 142 _ w fun e w' => e = .returned (.bool (decide (r.length = 0) && (hostP h).2)) ∧ Below w.heap.size w w'
    have hsz := hbd.out h (List.mem_cons_self ..)
    have HH : Hid (∀ W, Calls Tryz.prog 68 #[.string h] W fun e w' => e = .returned (.tuple #[.string (hostP h).1, .bool (hostP h).2]) ∧ Below W.heap.size W w') := fun W => host_any h W (by unfold maxLen; omega)
    have HG2 : Hid (Calls Tryz.prog 67 #[.slice a fs.length c, .string ⟨#[72, 111, 115, 116]⟩] (w.alloc (.cells #[.string m, .string t, .int .i64 minor, .slice a fs.length c, .slice b x y] 25)) fun e w' => ∃ g off cv, e = .returned (.slice (some ⟨g, off, none⟩) (r.length + 1) cv) ∧ Below w.heap.size w w' ∧ w'.cell? ⟨g, off, none⟩ = some (.string h) ∧ r.length + 1 ≤ 9223372036854775807) := by
      refine HG.out.mono ?_
      rintro e w' ⟨ao, cv, he, hO, hB, hg⟩
      obtain ⟨a', c', e', _, hl1, hl2, h4⟩ := hO.txs
      obtain ⟨rfl, _, rfl⟩ := slice_inj e'
      obtain ⟨g, off, rfl, _, hc⟩ := h4 (Nat.succ_pos _)
      refine ⟨g, off, cv, he, hB, hc 0 (Nat.succ_pos _), ?_⟩
      have e2 : (h :: r).length = r.length + 1 := rfl
      unfold maxLen at hl2
      omega
    clear HG hbd hsz
    generalize hostP h = hp at *
    obtain ⟨h1, h2⟩ := hp
    by_cases h0 : r.length = 0
    · rw [h0] at HG2
      rw [decide_eq_true h0]
      clear h0
      go_enter Tryz.func142, Tryz.ntmps142
      go_wp2_with fail
      refine HG2.out.mono ?_
      rintro e w1 ⟨g, off, cv, rfl, B1, q, _⟩
      go_wp2_with fail
      refine (HH.out _).mono ?_
      rintro e w2 ⟨rfl, B2⟩
      have C2 := B1.trans (B2.mono B1.size)
      go_wp2
      go_ret
      exact ⟨by simp, C2⟩
    · rw [decide_eq_false h0]
      have h0' : ¬ (((r.length + 1 : Nat) : Int)) = 1 := by omega
      have h0'' : ((((r.length + 1 : Nat) : Int)) == 1) = false := by simpa using h0'
      have h1' : ¬ (((r.length + 1 : Nat) : Int)) = 0 := by omega
      have h1'' : ((((r.length + 1 : Nat) : Int)) == 0) = false := by simpa using h1'
      clear h0
      generalize r.length + 1 = n at *
      go_enter Tryz.func142, Tryz.ntmps142
      go_wp2_with fail
      refine HG2.out.mono ?_
      rintro e w1 ⟨g, off, cv, rfl, B1, q, hn63⟩
      have hn0 : 0 < n := by omega
      go_wp2_with fail
      refine (HH.out _).mono ?_
      rintro e w2 ⟨rfl, B2⟩
      have C2 := B1.trans (B2.mono B1.size)
      go_wp2
      go_ret
      exact ⟨rfl, C2⟩

set_option maxRecDepth 100000 in
set_option maxHeartbeats 2000000 in
theorem hstatus_any (m t : ByteArray) (minor : Int) (fs : Fs) (a b : Option Addr) (c x y : Nat) (w : World) (hf : Fds w.heap.size w (.slice a fs.length c) fs) (hb : FBd 1000 fs) (hl : fs.length ≤ 1024) (hM : MaxL w) :
    Calls Tryz.prog 105 #[.agg #[.string m, .string t, .int .i64 minor, .slice a fs.length c, .slice b x y]] w fun e w' => e = .returned (.int .i64 (headSt fs minor)) ∧ Below w.heap.size w w' := by
  have hg0 := tblk_new w (.cells #[.string m, .string t, .int .i64 minor, .slice a fs.length c, .slice b x y] 25)
  have C0 : Below w.heap.size w (w.alloc (.cells #[.string m, .string t, .int .i64 minor, .slice a fs.length c, .slice b x y] 25)) := (Below.refl _ _).alloc (Nat.le_refl _) _
  have HR : Hid (Calls Tryz.prog 142 #[.agg #[.string m, .string t, .int .i64 minor, .slice a fs.length c, .slice b x y]] (w.alloc (.cells #[.string m, .string t, .int .i64 minor, .slice a fs.length c, .slice b x y] 25)) fun e w' => e = .returned (.bool (hostsOk (getF fs tHost) minor)) ∧ Below w.heap.size w w' ∧ w'.cell? ⟨w.heap.size, 2, none⟩ = some (.int .i64 minor) ∧ w'.cell? ⟨w.heap.size, 3, none⟩ = some (.slice a fs.length c)) := by
    refine (rhosts_any m t minor fs a b c x y _ (hf.over C0) hb hl).mono ?_
    rintro e w' ⟨he, hB⟩
    have hg := tblk_below hg0 hB
    exact ⟨he, C0.trans (hB.mono C0.size), tblk_cell hg rfl, tblk_cell hg rfl⟩
  have HF : Hid (∀ W, Below w.heap.size w W → Calls Tryz.prog 64 #[.slice a fs.length c, .int .i64 minor] W fun e w' => e = .returned (.tuple #[.int .i64 (reqF fs minor).1, .bool (reqF fs minor).2.1, .int .i64 (reqF fs minor).2.2]) ∧ Below W.heap.size W w') := fun W B => request_any fs a c minor W (hf.over B) (bd_big hb) hl (hM.below B)
  unfold headSt
  have c0 := tblk_cell (i := 0) hg0 rfl
  have c1 := tblk_cell (i := 1) hg0 rfl
  have c2 := tblk_cell (i := 2) hg0 rfl
  have c3 := tblk_cell (i := 3) hg0 rfl
  have c4 := tblk_cell (i := 4) hg0 rfl
  clear hf hb hl hM hg0 C0
  generalize hostsOk (getF fs tHost) minor = ok at *
  generalize reqF fs minor = F at *
  obtain ⟨F1, F2, F3⟩ := F
  cases ok
  · rw [if_neg (by decide)]
    go_enter Tryz.func105, Tryz.ntmps105
    go_wp2_with fail
    refine HR.out.mono ?_
    rintro e w1 ⟨rfl, B1, q2, q3⟩
    go_wp2
    go_ret
    exact ⟨rfl, B1⟩
  · rw [if_pos rfl]
    go_enter Tryz.func105, Tryz.ntmps105
    go_wp2_with fail
    refine HR.out.mono ?_
    rintro e w1 ⟨rfl, B1, q2, q3⟩
    go_wp2_with fail
    refine (HF.out _ B1).mono ?_
    rintro e w2 ⟨rfl, B2⟩
    have C2 := B1.trans (B2.mono B1.size)
    go_wp2
    go_ret
    exact ⟨rfl, C2⟩
end Go.Proofs.YtajfjjmabncldaaGreatDoor

/- Package http: Head. -/
namespace Go.Proofs.YtajfjjmabncldaaGreatDoor
open Go.RowKit
set_option linter.unusedVariables false

theorem OwnF.away {B : Nat} {w w' : World} {v : Value} {fs : Fs} (h : OwnF B w v fs) (hk : ∀ k, B ≤ k → w'.heap[k]? = w.heap[k]?) : OwnF B w' v fs := by
  obtain ⟨h1, h2 | ⟨g, cap, cur, hv, hg, hh, r⟩⟩ := h
  · exact ⟨h1, .inl h2⟩
  · exact ⟨h1, .inr ⟨g, cap, cur, hv, hg, (hk g hg).trans hh, r⟩⟩
theorem set_away {w : World} {b i : Nat} {v : Value} {k : Nat} (h : ¬ k = b) : (w.setCell ⟨b, i, none⟩ v).heap[k]? = w.heap[k]? := by
  simp only [World.setCell, Array.getElem?_modify]
  rw [if_neg (fun e => h e.symm)]
theorem five_away {w : World} {b : Nat} {v0 v1 v2 v3 v4 : Value} {k : Nat} (h : ¬ k = b) : (five w b v0 v1 v2 v3 v4).heap[k]? = w.heap[k]? := by
  unfold five
  rw [set_away h, set_away h, set_away h, set_away h, set_away h]
theorem set_size (w : World) (p : Addr) (v : Value) : (w.setCell p v).heap.size = w.heap.size := by simp [World.setCell]
theorem five_size (w : World) (b : Nat) (v0 v1 v2 v3 v4 : Value) : (five w b v0 v1 v2 v3 v4).heap.size = w.heap.size := by
  unfold five
  rw [set_size, set_size, set_size, set_size, set_size]
theorem field3 {w : World} {b : Nat} {y0 y1 y2 y3 y4 v : Value} {t : TypeId} (h : w.heap[b]? = some (.cells #[y0, y1, y2, y3, y4] t)) : (w.setCell ⟨b, 3, none⟩ v).heap[b]? = some (.cells #[y0, y1, y2, v, y4] t) := by
  simp [World.setCell, Array.getElem?_modify, h]
theorem field4 {w : World} {b : Nat} {y0 y1 y2 y3 y4 v : Value} {t : TypeId} (h : w.heap[b]? = some (.cells #[y0, y1, y2, y3, y4] t)) : (w.setCell ⟨b, 4, none⟩ v).heap[b]? = some (.cells #[y0, y1, y2, y3, v] t) := by
  simp [World.setCell, Array.getElem?_modify, h]
/-- A head's value. -/
def hdV (h : Hd) (fa : Option Addr) (fc : Nat) : Value := .tuple #[.agg #[.string h.m, .string h.t, .int .i64 h.minor, .slice fa h.fs.length fc, .slice none 0 0], .int .i64 (h.n : Nat), .int .i64 h.st]
def HeadR (w : World) (h : Hd) (e : Ending) (w' : World) : Prop := ∃ fa fc, e = .returned (hdV h fa fc) ∧ OwnF w.heap.size w' (.slice fa h.fs.length fc) h.fs ∧ Below w.heap.size w w'

set_option maxRecDepth 100000 in
set_option maxHeartbeats 4000000 in
theorem head_any (b : List UInt8) (kb c : Nat) (a : Option Addr) (w : World) (hs : Src w kb (.slice a b.length c) b) (hk : 0 < b.length → kb < w.heap.size) (hM : MaxL w) :
    Calls Tryz.prog 63 #[.slice a b.length c] w (HeadR w (headQ b)) := by
  have U0 : Below w.heap.size w (w.alloc (.cells #[.string ⟨#[]⟩, .string ⟨#[]⟩, .int .i64 0, .slice none 0 0, .slice none 0 0] 25)) := (Below.refl _ _).alloc (Nat.le_refl _) _
  have HRD : Hid (Calls Tryz.prog 102 #[.slice a b.length c, .func (.func 103) #[] #[.pointer (some ⟨w.heap.size + 1, 0, none⟩)]] ((w.alloc (.cells #[.string ⟨#[]⟩, .string ⟨#[]⟩, .int .i64 0, .slice none 0 0, .slice none 0 0] 25)).alloc (.cells #[.string ⟨#[]⟩, .string ⟨#[]⟩, .int .i64 0, .slice none 0 0, .slice none 0 0] 25)) fun e w' => ∃ fa fc, e = .returned (.tuple #[.slice fa (headL rqSt b).1.length fc, .int .i64 ((headL rqSt b).2.1 : Nat), .int .i64 (headL rqSt b).2.2]) ∧ OwnF (w.heap.size + 2) w' (.slice fa (headL rqSt b).1.length fc) (headL rqSt b).1 ∧ w.heap.size + 2 ≤ w'.heap.size ∧ Below w.heap.size w w' ∧ w'.heap[w.heap.size]? = some (.cells #[.string ⟨#[]⟩, .string ⟨#[]⟩, .int .i64 0, .slice none 0 0, .slice none 0 0] 25) ∧ (¬ (headL rqSt b).2.1 = 0 → w'.heap[w.heap.size + 1]? = some (.cells #[.string (rqP (firstL b)).method, .string (rqP (firstL b)).target, .int .i64 (rqP (firstL b)).minor, .slice none 0 0, .slice none 0 0] 25))) := by
    have k := readA_any b kb c a (.string ⟨#[]⟩) (.string ⟨#[]⟩) (.int .i64 0) (.slice none 0 0) (.slice none 0 0) (w.alloc (.cells #[.string ⟨#[]⟩, .string ⟨#[]⟩, .int .i64 0, .slice none 0 0, .slice none 0 0] 25)) ((w.alloc (.cells #[.string ⟨#[]⟩, .string ⟨#[]⟩, .int .i64 0, .slice none 0 0, .slice none 0 0] 25)).alloc (.cells #[.string ⟨#[]⟩, .string ⟨#[]⟩, .int .i64 0, .slice none 0 0, .slice none 0 0] 25)) (PI.new _ _) (hs.keep hk U0) (fun q => Nat.lt_of_lt_of_le (hk q) U0.size) (hM.below U0)
    have e1 : (w.alloc (.cells #[.string ⟨#[]⟩, .string ⟨#[]⟩, .int .i64 0, .slice none 0 0, .slice none 0 0] 25)).heap.size = w.heap.size + 1 := by simp
    have e2 : ((w.alloc (.cells #[.string ⟨#[]⟩, .string ⟨#[]⟩, .int .i64 0, .slice none 0 0, .slice none 0 0] 25)).alloc (.cells #[.string ⟨#[]⟩, .string ⟨#[]⟩, .int .i64 0, .slice none 0 0, .slice none 0 0] 25)).heap.size = w.heap.size + 2 := by simp
    rw [e1, e2] at k
    refine k.mono ?_
    rintro e w' ⟨fa, fc, he, hO, o, hP, ho⟩
    have hb := hP.below
    have hw := hP.own
    rw [e1] at hb hw
    refine ⟨fa, fc, he, hO, ?_, U0.trans (hb.mono (by simp)), ?_, fun q => ?_⟩
    · have q := heap_lt hw; omega
    · rw [hb.block w.heap.size (by simp), tblk_new]
    · rw [hw, ho q]
  have HOK : Hid (HdOk b.length (headQ b)) := headQ_ok b
  have HLO : Hid (FlOk 40 (min 2048 b.length) (headL rqSt b)) := headL_ok _ _
  have HS : Hid (∀ (W : World) (m t : ByteArray) (mi : Int) (fa : Option Addr) (fc : Nat), Below w.heap.size w W → Fds W.heap.size W (.slice fa (headL rqSt b).1.length fc) (headL rqSt b).1 → Calls Tryz.prog 105 #[.agg #[.string m, .string t, .int .i64 mi, .slice fa (headL rqSt b).1.length fc, .slice none 0 0]] W fun e w' => e = .returned (.int .i64 (headSt (headL rqSt b).1 mi)) ∧ Below W.heap.size W w') := fun W m t mi fa fc B F => hstatus_any m t mi _ fa none fc 0 0 W F HLO.out.bd (by have := HLO.out.len; omega) (hM.below B)
  clear hs hk hM U0
  have hQ : headQ b = if (headL rqSt b).2.1 = 0 then hdNo (headL rqSt b).2.2 else if headSt (headL rqSt b).1 (rqP (firstL b)).minor = 0 then ⟨(rqP (firstL b)).method, (rqP (firstL b)).target, (rqP (firstL b)).minor, (headL rqSt b).1, (headL rqSt b).2.1, 0⟩ else hdNo (headSt (headL rqSt b).1 (rqP (firstL b)).minor) := rfl
  have HQ : Hid _ := hQ
  clear hQ HLO
  generalize headQ b = Q at *
  generalize headL rqSt b = H at *
  obtain ⟨fs, n, st⟩ := H
  simp only at HRD HQ HS
  have hnb : Hid (n = 0 ∨ ¬ n = 0) := Classical.em _
  generalize (rqP (firstL b)).method = m at *
  generalize (rqP (firstL b)).target = t at *
  generalize (rqP (firstL b)).minor = mi at *
  generalize b.length = bl at *
  by_cases h0 : n = 0
  · subst h0
    have HE : Hid (Q = hdNo st) := by rw [Hid, HQ.out, if_pos rfl]
    clear HQ HOK hnb
    go_enter Tryz.func63, Tryz.ntmps63
    go_wp2_with fail
    refine HRD.out.mono ?_
    rintro e w1 ⟨fa, fc, rfl, hO, hsz, B1, hg, _⟩
    have HB1 : Hid _ := five_below (.string ⟨#[]⟩) (.string ⟨#[]⟩) (.int .i64 0) (.slice none 0 0) (.slice none 0 0) B1 (Nat.le_refl _)
    unfold five at HB1
    clear HRD hO hsz B1
    have HW := five_cells hg (.string ⟨#[]⟩) (.string ⟨#[]⟩) (.int .i64 0) (.slice none 0 0) (.slice none 0 0)
    have a0 := tblk_cell (i := 0) hg rfl
    have z0 := lblk_z (i := 0) hg
    have a1 := tblk_cell (i := 1) hg rfl
    have z1 := lblk_z (i := 1) hg
    have a2 := tblk_cell (i := 2) hg rfl
    have z2 := lblk_z (i := 2) hg
    have a3 := tblk_cell (i := 3) hg rfl
    have z3 := lblk_z (i := 3) hg
    have a4 := tblk_cell (i := 4) hg rfl
    have z4 := lblk_z (i := 4) hg
    have r0 := tblk_cell (i := 0) HW rfl
    have r1 := tblk_cell (i := 1) HW rfl
    have r2 := tblk_cell (i := 2) HW rfl
    have r3 := tblk_cell (i := 3) HW rfl
    have r4 := tblk_cell (i := 4) HW rfl
    unfold five at r0 r1 r2 r3 r4
    clear HW hg
    go_wp2
    refine bodyPost_ret (v := .tuple #[.agg #[.string ⟨#[]⟩, .string ⟨#[]⟩, .int .i64 0, .slice none 0 0, .slice none 0 0], .int .i64 0, .int .i64 st]) (by simp [results, Tryz.results63, go_sem, r0, r1, r2, r3, r4]) rfl ?_
    rw [HE.out]
    exact ⟨none, 0, rfl, OwnF.nil _ _, HB1.out⟩
  · have hn' : ¬ ((n : Nat) : Int) = 0 := by omega
    have hn'' : (((n : Nat) : Int) == 0) = false := by simpa using hn'
    have HS0 : Hid (∀ (W : World) (m t : ByteArray) (mi : Int) (fa : Option Addr) (fc : Nat), Below w.heap.size w W → Fds W.heap.size W (.slice fa fs.length fc) fs → Calls Tryz.prog 105 #[.agg #[.string m, .string t, .int .i64 mi, .slice fa fs.length fc, .slice none 0 0]] W fun e w' => e = .returned (.int .i64 (headSt fs mi)) ∧ Below W.heap.size W w') := HS.out
    clear HS
    by_cases hst : headSt fs mi = 0
    · have HE : Hid (Q = ⟨m, t, mi, fs, n, 0⟩) := by rw [Hid, HQ.out, if_neg h0, if_pos hst]
      have HS1 : Hid (∀ (W : World) (m t : ByteArray) (fa : Option Addr) (fc : Nat), Below w.heap.size w W → Fds W.heap.size W (.slice fa fs.length fc) fs → Calls Tryz.prog 105 #[.agg #[.string m, .string t, .int .i64 mi, .slice fa fs.length fc, .slice none 0 0]] W fun e w' => e = .returned (.int .i64 0) ∧ Below W.heap.size W w') := fun W m t fa fc B F => by have k := HS0.out W m t mi fa fc B F; rw [hst] at k; exact k
      clear HQ HOK hnb hst HS0
      go_enter Tryz.func63, Tryz.ntmps63
      go_wp2_with fail
      refine HRD.out.mono ?_
      rintro e w1 ⟨fa, fc, rfl, hO, hsz, B1, hg, hr⟩
      have hr1 := hr h0
      have hr2 := field3 (v := .slice fa fs.length fc) hr1
      have hg2 : (w1.setCell ⟨w.heap.size + 1, 3, none⟩ (.slice fa fs.length fc)).heap[w.heap.size]? = some (.cells #[.string ⟨#[]⟩, .string ⟨#[]⟩, .int .i64 0, .slice none 0 0, .slice none 0 0] 25) := (set_away (by omega)).trans hg
      have hO2 : OwnF (w.heap.size + 2) (w1.setCell ⟨w.heap.size + 1, 3, none⟩ (.slice fa fs.length fc)) (.slice fa fs.length fc) fs := hO.away (fun k hk => set_away (by omega))
      have B2 : Below w.heap.size w (w1.setCell ⟨w.heap.size + 1, 3, none⟩ (.slice fa fs.length fc)) := B1.setCell (p := ⟨w.heap.size + 1, 3, none⟩) (Nat.le_succ _) _
      have y3 := tblk_cell (i := 3) hr1 rfl
      have x3 := lblk_z (i := 3) hr1
      have d0 := tblk_cell (i := 0) hr2 rfl
      have d1 := tblk_cell (i := 1) hr2 rfl
      have d2 := tblk_cell (i := 2) hr2 rfl
      have d3 := tblk_cell (i := 3) hr2 rfl
      have d4 := tblk_cell (i := 4) hr2 rfl
      clear hr1 hg hO B1 HRD hr
      go_wp2_with fail
      clear y3 x3 d0 d1 d2 d3 d4
      generalize w1.setCell ⟨w.heap.size + 1, 3, none⟩ (.slice fa fs.length fc) = w2 at *
      refine (HS1.out w2 m t fa fc B2 hO2.fds).mono ?_
      rintro e w3 ⟨rfl, B3⟩
      have C3 := B2.trans (B3.mono B2.size)
      have hg3 := tblk_below hg2 B3
      have hr3 := tblk_below hr2 B3
      have O3 := hO2.keep B3
      have HB1 : Hid _ := five_below (.string m) (.string t) (.int .i64 mi) (.slice fa fs.length fc) (.slice none 0 0) C3 (Nat.le_refl _)
      have HO3 : Hid (OwnF w.heap.size (five w3 w.heap.size (.string m) (.string t) (.int .i64 mi) (.slice fa fs.length fc) (.slice none 0 0)) (.slice fa fs.length fc) fs) := (O3.away (fun k hk => five_away (by omega))).mono (by omega)
      unfold five at HB1 HO3
      have b0 := tblk_cell (i := 0) hr3 rfl
      have b1 := tblk_cell (i := 1) hr3 rfl
      have b2 := tblk_cell (i := 2) hr3 rfl
      have b3 := tblk_cell (i := 3) hr3 rfl
      have b4 := tblk_cell (i := 4) hr3 rfl
      clear hr3 hg2 hr2 hO2 B2 B3 C3 O3
      have HW := five_cells hg3 (.string m) (.string t) (.int .i64 mi) (.slice fa fs.length fc) (.slice none 0 0)
      have a0 := tblk_cell (i := 0) hg3 rfl
      have z0 := lblk_z (i := 0) hg3
      have a1 := tblk_cell (i := 1) hg3 rfl
      have z1 := lblk_z (i := 1) hg3
      have a2 := tblk_cell (i := 2) hg3 rfl
      have z2 := lblk_z (i := 2) hg3
      have a3 := tblk_cell (i := 3) hg3 rfl
      have z3 := lblk_z (i := 3) hg3
      have a4 := tblk_cell (i := 4) hg3 rfl
      have z4 := lblk_z (i := 4) hg3
      have r0 := tblk_cell (i := 0) HW rfl
      have r1 := tblk_cell (i := 1) HW rfl
      have r2 := tblk_cell (i := 2) HW rfl
      have r3 := tblk_cell (i := 3) HW rfl
      have r4 := tblk_cell (i := 4) HW rfl
      unfold five at r0 r1 r2 r3 r4
      clear HW hg3
      go_wp2
      refine bodyPost_ret (v := .tuple #[.agg #[.string m, .string t, .int .i64 mi, .slice fa fs.length fc, .slice none 0 0], .int .i64 (n : Nat), .int .i64 0]) (by simp [results, Tryz.results63, go_sem, r0, r1, r2, r3, r4]) rfl ?_
      rw [HE.out]
      exact ⟨fa, fc, rfl, HO3.out, HB1.out⟩
    · have HE : Hid (Q = hdNo (headSt fs mi)) := by rw [Hid, HQ.out, if_neg h0, if_neg hst]
      have hst' : (headSt fs mi != 0) = true := by simpa using hst
      have HS1 : Hid (∀ (W : World) (m t : ByteArray) (fa : Option Addr) (fc : Nat), Below w.heap.size w W → Fds W.heap.size W (.slice fa fs.length fc) fs → Calls Tryz.prog 105 #[.agg #[.string m, .string t, .int .i64 mi, .slice fa fs.length fc, .slice none 0 0]] W fun e w' => e = .returned (.int .i64 (headSt fs mi)) ∧ Below W.heap.size W w') := fun W m t fa fc B F => HS0.out W m t mi fa fc B F
      clear HS0
      generalize headSt fs mi = sst at *
      clear HQ HOK hnb hst
      go_enter Tryz.func63, Tryz.ntmps63
      go_wp2_with fail
      refine HRD.out.mono ?_
      rintro e w1 ⟨fa, fc, rfl, hO, hsz, B1, hg, hr⟩
      have hr1 := hr h0
      have hr2 := field3 (v := .slice fa fs.length fc) hr1
      have hg2 : (w1.setCell ⟨w.heap.size + 1, 3, none⟩ (.slice fa fs.length fc)).heap[w.heap.size]? = some (.cells #[.string ⟨#[]⟩, .string ⟨#[]⟩, .int .i64 0, .slice none 0 0, .slice none 0 0] 25) := (set_away (by omega)).trans hg
      have hO2 : OwnF (w.heap.size + 2) (w1.setCell ⟨w.heap.size + 1, 3, none⟩ (.slice fa fs.length fc)) (.slice fa fs.length fc) fs := hO.away (fun k hk => set_away (by omega))
      have B2 : Below w.heap.size w (w1.setCell ⟨w.heap.size + 1, 3, none⟩ (.slice fa fs.length fc)) := B1.setCell (p := ⟨w.heap.size + 1, 3, none⟩) (Nat.le_succ _) _
      have y3 := tblk_cell (i := 3) hr1 rfl
      have x3 := lblk_z (i := 3) hr1
      have d0 := tblk_cell (i := 0) hr2 rfl
      have d1 := tblk_cell (i := 1) hr2 rfl
      have d2 := tblk_cell (i := 2) hr2 rfl
      have d3 := tblk_cell (i := 3) hr2 rfl
      have d4 := tblk_cell (i := 4) hr2 rfl
      clear hr1 hg hO B1 HRD hr
      go_wp2_with fail
      clear y3 x3 d0 d1 d2 d3 d4
      generalize w1.setCell ⟨w.heap.size + 1, 3, none⟩ (.slice fa fs.length fc) = w2 at *
      refine (HS1.out w2 m t fa fc B2 hO2.fds).mono ?_
      rintro e w3 ⟨rfl, B3⟩
      have C3 := B2.trans (B3.mono B2.size)
      have hg3 := tblk_below hg2 B3
      have HB1 : Hid _ := five_below (.string ⟨#[]⟩) (.string ⟨#[]⟩) (.int .i64 0) (.slice none 0 0) (.slice none 0 0) C3 (Nat.le_refl _)
      unfold five at HB1
      clear hg2 hr2 hO2 B2 B3 C3
      have HW := five_cells hg3 (.string ⟨#[]⟩) (.string ⟨#[]⟩) (.int .i64 0) (.slice none 0 0) (.slice none 0 0)
      have a0 := tblk_cell (i := 0) hg3 rfl
      have z0 := lblk_z (i := 0) hg3
      have a1 := tblk_cell (i := 1) hg3 rfl
      have z1 := lblk_z (i := 1) hg3
      have a2 := tblk_cell (i := 2) hg3 rfl
      have z2 := lblk_z (i := 2) hg3
      have a3 := tblk_cell (i := 3) hg3 rfl
      have z3 := lblk_z (i := 3) hg3
      have a4 := tblk_cell (i := 4) hg3 rfl
      have z4 := lblk_z (i := 4) hg3
      have r0 := tblk_cell (i := 0) HW rfl
      have r1 := tblk_cell (i := 1) HW rfl
      have r2 := tblk_cell (i := 2) HW rfl
      have r3 := tblk_cell (i := 3) HW rfl
      have r4 := tblk_cell (i := 4) HW rfl
      unfold five at r0 r1 r2 r3 r4
      clear HW hg3
      go_wp2
      refine bodyPost_ret (v := .tuple #[.agg #[.string ⟨#[]⟩, .string ⟨#[]⟩, .int .i64 0, .slice none 0 0, .slice none 0 0], .int .i64 0, .int .i64 sst]) (by simp [results, Tryz.results63, go_sem, r0, r1, r2, r3, r4]) rfl ?_
      rw [HE.out]
      exact ⟨none, 0, rfl, OwnF.nil _ _, HB1.out⟩
end Go.Proofs.YtajfjjmabncldaaGreatDoor

/- Package http: Request. -/
namespace Go.Proofs.YtajfjjmabncldaaGreatDoor
open Go.RowKit
set_option linter.unusedVariables false

/-- A request's value. -/
def rdV (r : Rd) (fa ba : Option Addr) (fc bc : Nat) : Value := .tuple #[.agg #[.string r.m, .string r.t, .int .i64 r.minor, .slice fa r.fs.length fc, .slice ba r.body.length bc], .int .i64 (r.n : Nat), .int .i64 r.st]
def ReqR (w : World) (r : Rd) (e : Ending) (w' : World) : Prop := ∃ fa ba fc bc, e = .returned (rdV r fa ba fc bc) ∧ OwnF w.heap.size w' (.slice fa r.fs.length fc) r.fs ∧ Own w.heap.size w' (.slice ba r.body.length bc) r.body ∧ Below w.heap.size w w'

set_option maxRecDepth 100000 in
set_option maxHeartbeats 4000000 in
theorem hreq_any (b : List UInt8) (kb c : Nat) (a : Option Addr) (w : World) (hs : Src w kb (.slice a b.length c) b) (hk : 0 < b.length → kb < w.heap.size) (hM : MaxL w) (hlen : b.length ≤ 1099511627776) :
    Calls Tryz.prog 28 #[.slice a b.length c] w (ReqR w (reqQ b)) := by
  have U0 : Below w.heap.size w (w.alloc (.cells #[.string ⟨#[]⟩, .string ⟨#[]⟩, .int .i64 0, .slice none 0 0, .slice none 0 0] 25)) := (Below.refl _ _).alloc (Nat.le_refl _) _
  have HOK : Hid (HdOk b.length (headQ b)) := headQ_ok b
  have HH : Hid (Calls Tryz.prog 63 #[.slice a b.length c] (w.alloc (.cells #[.string ⟨#[]⟩, .string ⟨#[]⟩, .int .i64 0, .slice none 0 0, .slice none 0 0] 25)) fun e w' => ∃ fa fc, e = .returned (hdV (headQ b) fa fc) ∧ OwnF (w.heap.size + 1) w' (.slice fa (headQ b).fs.length fc) (headQ b).fs ∧ w.heap.size + 1 ≤ w'.heap.size ∧ Below w.heap.size w w' ∧ w'.heap[w.heap.size]? = some (.cells #[.string ⟨#[]⟩, .string ⟨#[]⟩, .int .i64 0, .slice none 0 0, .slice none 0 0] 25)) := by
    refine (head_any b kb c a _ (hs.keep hk U0) (fun q => Nat.lt_of_lt_of_le (hk q) U0.size) (hM.below U0)).mono ?_
    rintro e w' ⟨fa, fc, he, hO, hB⟩
    have e1 : (w.alloc (.cells #[.string ⟨#[]⟩, .string ⟨#[]⟩, .int .i64 0, .slice none 0 0, .slice none 0 0] 25)).heap.size = w.heap.size + 1 := by simp
    rw [e1] at hO
    have hsz := hB.size
    rw [e1] at hsz
    exact ⟨fa, fc, he, hO, hsz, U0.trans (hB.mono (by simp)), tblk_below (tblk_new _ _) hB⟩
  have HF : Hid (∀ (W : World) (fa : Option Addr) (fc : Nat), Below w.heap.size w W → Fds W.heap.size W (.slice fa (headQ b).fs.length fc) (headQ b).fs → Calls Tryz.prog 64 #[.slice fa (headQ b).fs.length fc, .int .i64 (headQ b).minor] W fun e w' => e = .returned (.tuple #[.int .i64 (reqF (headQ b).fs (headQ b).minor).1, .bool (reqF (headQ b).fs (headQ b).minor).2.1, .int .i64 (reqF (headQ b).fs (headQ b).minor).2.2]) ∧ Below W.heap.size W w') := fun W fa fc B F => request_any _ fa fc _ W F (bd_big HOK.out.bd) (by have := HOK.out.len; omega) (hM.below B)
  obtain ⟨sz, hsz⟩ : ∃ sz : Nat, (reqF (headQ b).fs (headQ b).minor).1 = (sz : Int) := ⟨(reqF (headQ b).fs (headQ b).minor).1.toNat, by have := (told_nn (headQ b).fs (headQ b).minor).1; unfold reqF; simp only; omega⟩
  have hszb : sz ≤ 4096 := by have k := (told_nn (headQ b).fs (headQ b).minor).2; unfold reqF at hsz; simp only at hsz; omega
  have HB : Hid (∀ W, Below w.heap.size w W → Calls Tryz.prog 65 #[.slice a b.length c, .int .i64 ((headQ b).n : Nat), .int .i64 (sz : Nat), .bool (reqF (headQ b).fs (headQ b).minor).2.1] W (DecQ W (bodyOf (headQ b) b))) := fun W B => by
    have k := body_any b kb c a (headQ b).n sz (reqF (headQ b).fs (headQ b).minor).2.1 W (hs.keep hk B) (fun q => Nat.lt_of_lt_of_le (hk q) B.size) (hM.below B) HOK.out.le.1 hlen (by omega)
    unfold bodyOf
    rw [hsz]
    exact k
  have hQ : reqQ b = if (headQ b).n = 0 then rdNo (headQ b).st else rdOf (headQ b) (bodyOf (headQ b) b) := rfl
  rw [hsz] at HF
  have HQ : Hid _ := hQ
  clear hQ hs hk hM U0 hsz hszb hlen HOK
  generalize reqQ b = Q at *
  generalize bodyOf (headQ b) b = X at *
  obtain ⟨X1, X2, X3⟩ := X
  generalize headQ b = H at *
  obtain ⟨m, t, mi, fs, n, st⟩ := H
  simp only at HF HB HQ
  unfold hdV at HH
  simp only at HH
  generalize (reqF fs mi).2.1 = cd at *
  generalize (reqF fs mi).2.2 = s3 at *
  generalize b.length = bl at *
  by_cases h0 : n = 0
  · subst h0
    have HE : Hid (Q = rdNo st) := by rw [Hid, HQ.out, if_pos rfl]
    clear HQ HF HB
    go_enter Tryz.func28, Tryz.ntmps28
    go_wp2_with fail
    refine HH.out.mono ?_
    rintro e w1 ⟨fa, fc, rfl, O1, hs1, B1, hg1⟩
    clear HH O1 hs1
    have B2 := B1.alloc B1.size (.cells #[.string m, .string t, .int .i64 mi, .slice fa fs.length fc, .slice none 0 0] 25)
    have hg2 := tblk_below hg1 ((Below.refl _ _).alloc (Nat.le_refl _) (.cells #[.string m, .string t, .int .i64 mi, .slice fa fs.length fc, .slice none 0 0] 25))
    have HB2 : Hid _ := five_below (.string ⟨#[]⟩) (.string ⟨#[]⟩) (.int .i64 0) (.slice none 0 0) (.slice none 0 0) B2 (Nat.le_refl _)
    unfold five at HB2
    clear B1 B2 hg1
    have HW := five_cells hg2 (.string ⟨#[]⟩) (.string ⟨#[]⟩) (.int .i64 0) (.slice none 0 0) (.slice none 0 0)
    have a0 := tblk_cell (i := 0) hg2 rfl
    have z0 := lblk_z (i := 0) hg2
    have a1 := tblk_cell (i := 1) hg2 rfl
    have z1 := lblk_z (i := 1) hg2
    have a2 := tblk_cell (i := 2) hg2 rfl
    have z2 := lblk_z (i := 2) hg2
    have a3 := tblk_cell (i := 3) hg2 rfl
    have z3 := lblk_z (i := 3) hg2
    have a4 := tblk_cell (i := 4) hg2 rfl
    have z4 := lblk_z (i := 4) hg2
    have r0 := tblk_cell (i := 0) HW rfl
    have r1 := tblk_cell (i := 1) HW rfl
    have r2 := tblk_cell (i := 2) HW rfl
    have r3 := tblk_cell (i := 3) HW rfl
    have r4 := tblk_cell (i := 4) HW rfl
    unfold five at r0 r1 r2 r3 r4
    clear HW hg2
    go_wp2
    refine bodyPost_ret (v := .tuple #[.agg #[.string ⟨#[]⟩, .string ⟨#[]⟩, .int .i64 0, .slice none 0 0, .slice none 0 0], .int .i64 0, .int .i64 st]) (by simp [results, Tryz.results28, go_sem, r0, r1, r2, r3, r4]) rfl ?_
    rw [HE.out]
    exact ⟨none, none, 0, 0, rfl, OwnF.nil _ _, Own.nil _ _, HB2.out⟩
  · have h0' : ¬ ((n : Nat) : Int) = 0 := by omega
    have h0'' : (((n : Nat) : Int) == 0) = false := by simpa using h0'
    rw [if_neg h0] at HQ
    clear h0
    by_cases hx : X2 = 0
    · subst hx
      have HE : Hid (Q = rdNo (bodySt X3)) := HQ.out
      clear HQ
      go_enter Tryz.func28, Tryz.ntmps28
      go_wp2_with fail
      refine HH.out.mono ?_
      rintro e w1 ⟨fa, fc, rfl, O1, hs1, B1, hg1⟩
      clear HH
      have B2 := B1.alloc B1.size (.cells #[.string m, .string t, .int .i64 mi, .slice fa fs.length fc, .slice none 0 0] 25)
      have U2 : Below w1.heap.size w1 (w1.alloc (.cells #[.string m, .string t, .int .i64 mi, .slice fa fs.length fc, .slice none 0 0] 25)) := (Below.refl _ _).alloc (Nat.le_refl _) _
      have hg2 := tblk_below hg1 U2
      have hr2 := tblk_new w1 (.cells #[.string m, .string t, .int .i64 mi, .slice fa fs.length fc, .slice none 0 0] 25)
      have O2 := O1.keep U2
      have d2 := tblk_cell (i := 2) hr2 rfl
      have d3 := tblk_cell (i := 3) hr2 rfl
      have hsp : w.heap.size < w1.heap.size := by omega
      clear B1 hg1 O1 U2 hs1
      go_wp2_with fail
      clear d2 d3
      generalize w1.alloc (.cells #[.string m, .string t, .int .i64 mi, .slice fa fs.length fc, .slice none 0 0] 25) = w2 at *
      generalize w1.heap.size = p at *
      refine (HF.out w2 fa fc B2 O2.fds).mono ?_
      rintro e w3 ⟨rfl, B3⟩
      have D3 := B2.trans (B3.mono B2.size)
      have hg3 := tblk_below hg2 B3
      have hr3 := tblk_below hr2 B3
      have O3 := O2.keep B3
      clear B2 B3 hg2 hr2 O2 HF
      go_wp2_with fail
      refine (HB.out w3 D3).mono ?_
      rintro e w4 ⟨v4, rfl, P4, B4⟩
      obtain ⟨ad4, c4, rfl, _⟩ := P4.form
      have D4 := D3.trans (B4.mono D3.size)
      have hg4 := tblk_below hg3 B4
      have hr4 := tblk_below hr3 B4
      have O4 := O3.keep B4
      have hp3 : p < w3.heap.size := heap_lt hr3
      clear D3 hg3 hr3 O3 HB
      clear hp3 B4
      generalize X1.length = xl at *
      go_wp2_with fail
      refine (bstat_any X3 _).mono ?_
      rintro e w5 ⟨rfl, rfl⟩
      generalize bodySt X3 = bst at *
      have HB5 : Hid _ := five_below (.string ⟨#[]⟩) (.string ⟨#[]⟩) (.int .i64 0) (.slice none 0 0) (.slice none 0 0) D4 (Nat.le_refl _)
      unfold five at HB5
      clear D4 O4 P4 hr4
      have HW := five_cells hg4 (.string ⟨#[]⟩) (.string ⟨#[]⟩) (.int .i64 0) (.slice none 0 0) (.slice none 0 0)
      have a0 := tblk_cell (i := 0) hg4 rfl
      have z0 := lblk_z (i := 0) hg4
      have a1 := tblk_cell (i := 1) hg4 rfl
      have z1 := lblk_z (i := 1) hg4
      have a2 := tblk_cell (i := 2) hg4 rfl
      have z2 := lblk_z (i := 2) hg4
      have a3 := tblk_cell (i := 3) hg4 rfl
      have z3 := lblk_z (i := 3) hg4
      have a4 := tblk_cell (i := 4) hg4 rfl
      have z4 := lblk_z (i := 4) hg4
      have r0 := tblk_cell (i := 0) HW rfl
      have r1 := tblk_cell (i := 1) HW rfl
      have r2 := tblk_cell (i := 2) HW rfl
      have r3 := tblk_cell (i := 3) HW rfl
      have r4 := tblk_cell (i := 4) HW rfl
      unfold five at r0 r1 r2 r3 r4
      clear HW hg4
      go_wp2
      refine bodyPost_ret (v := .tuple #[.agg #[.string ⟨#[]⟩, .string ⟨#[]⟩, .int .i64 0, .slice none 0 0, .slice none 0 0], .int .i64 0, .int .i64 bst]) (by simp [results, Tryz.results28, go_sem, r0, r1, r2, r3, r4]) rfl ?_
      rw [HE.out]
      exact ⟨none, none, 0, 0, rfl, OwnF.nil _ _, Own.nil _ _, HB5.out⟩
    · have hx' : ¬ ((X2 : Nat) : Int) = 0 := by omega
      have hx'' : (((X2 : Nat) : Int) == 0) = false := by simpa using hx'
      have HE : Hid (Q = ⟨m, t, mi, fs, X1, X2, 0⟩) := by
        rw [Hid, HQ.out]
        unfold rdOf
        rw [if_neg hx]
      clear HQ hx
      go_enter Tryz.func28, Tryz.ntmps28
      go_wp2_with fail
      refine HH.out.mono ?_
      rintro e w1 ⟨fa, fc, rfl, O1, hs1, B1, hg1⟩
      clear HH
      have B2 := B1.alloc B1.size (.cells #[.string m, .string t, .int .i64 mi, .slice fa fs.length fc, .slice none 0 0] 25)
      have U2 : Below w1.heap.size w1 (w1.alloc (.cells #[.string m, .string t, .int .i64 mi, .slice fa fs.length fc, .slice none 0 0] 25)) := (Below.refl _ _).alloc (Nat.le_refl _) _
      have hg2 := tblk_below hg1 U2
      have hr2 := tblk_new w1 (.cells #[.string m, .string t, .int .i64 mi, .slice fa fs.length fc, .slice none 0 0] 25)
      have O2 := O1.keep U2
      have O4w := O1
      have hkw0 : ∀ k, k < w1.heap.size → (w1.alloc (.cells #[.string m, .string t, .int .i64 mi, .slice fa fs.length fc, .slice none 0 0] 25)).heap[k]? = w1.heap[k]? := fun k hk => U2.block k hk
      have hpw : w1.heap.size ≤ w1.heap.size := Nat.le_refl _
      have d2 := tblk_cell (i := 2) hr2 rfl
      have d3 := tblk_cell (i := 3) hr2 rfl
      have hsp : w.heap.size < w1.heap.size := by omega
      clear B1 hg1 O1 U2 hs1
      go_wp2_with fail
      clear d2 d3
      generalize w1.alloc (.cells #[.string m, .string t, .int .i64 mi, .slice fa fs.length fc, .slice none 0 0] 25) = w2 at *
      generalize hpd : w1.heap.size = p at *
      have HPD : Hid (w1.heap.size = p) := hpd
      clear hpd
      refine (HF.out w2 fa fc B2 O2.fds).mono ?_
      rintro e w3 ⟨rfl, B3⟩
      have D3 := B2.trans (B3.mono B2.size)
      have hp2 : p < w2.heap.size := heap_lt hr2
      have hkw3 : ∀ k, k < w2.heap.size → w3.heap[k]? = w2.heap[k]? := fun k hk => B3.block k hk
      have hsz3 : w2.heap.size ≤ w3.heap.size := B3.size
      have hg3 := tblk_below hg2 B3
      have hr3 := tblk_below hr2 B3
      have O3 := O2.keep B3
      clear B2 B3 hg2 hr2 O2 HF
      go_wp2_with fail
      refine (HB.out w3 D3).mono ?_
      rintro e w4 ⟨v4, rfl, P4, B4⟩
      obtain ⟨ad4, c4, rfl, _⟩ := P4.form
      have D4 := D3.trans (B4.mono D3.size)
      have hkw : ∀ k, w.heap.size + 1 ≤ k → k < w1.heap.size → w4.heap[k]? = w1.heap[k]? := fun k h1 h2 => ((B4.block k (by have := HPD.out; omega)).trans (hkw3 k (by have := HPD.out; omega))).trans (hkw0 k (by have := HPD.out; omega))
      have hg4 := tblk_below hg3 B4
      have hr4 := tblk_below hr3 B4
      have O4 := O3.keep B4
      have hp3 : p < w3.heap.size := heap_lt hr3
      clear D3 hg3 hr3 O3 HB
      have hr5 := field4 (v := .slice ad4 X1.length c4) hr4
      have hg5 : (w4.setCell ⟨p, 4, none⟩ (.slice ad4 X1.length c4)).heap[w.heap.size]? = some (.cells #[.string ⟨#[]⟩, .string ⟨#[]⟩, .int .i64 0, .slice none 0 0, .slice none 0 0] 25) := (set_away (by omega)).trans hg4
      have D5 : Below w.heap.size w (w4.setCell ⟨p, 4, none⟩ (.slice ad4 X1.length c4)) := D4.setCell (p := ⟨p, 4, none⟩) (Nat.le_of_lt hsp) _
      have HB5 : Hid _ := five_below (.string m) (.string t) (.int .i64 mi) (.slice fa fs.length fc) (.slice ad4 X1.length c4) D5 (Nat.le_refl _)
      have HO5 : Hid (OwnF w.heap.size (five (w4.setCell ⟨p, 4, none⟩ (.slice ad4 X1.length c4)) w.heap.size (.string m) (.string t) (.int .i64 mi) (.slice fa fs.length fc) (.slice ad4 X1.length c4)) (.slice fa fs.length fc) fs) := (O4w.kept (fun k h1 h2 => (five_away (by omega)).trans ((set_away (by have := HPD.out; omega)).trans (hkw k h1 h2)))).mono (by omega)
      have HP5 : Hid (Own w.heap.size (five (w4.setCell ⟨p, 4, none⟩ (.slice ad4 X1.length c4)) w.heap.size (.string m) (.string t) (.int .i64 mi) (.slice fa fs.length fc) (.slice ad4 X1.length c4)) (.slice ad4 X1.length c4) X1) := (P4.kept (fun k h1 h2 => (five_away (by omega)).trans (set_away (by omega)))).mono (by have := heap_lt hg4; have := D4.size; omega)
      unfold five at HB5 HO5 HP5
      have y4 := tblk_cell (i := 4) hr4 rfl
      have x4 := lblk_z (i := 4) hr4
      have d0 := tblk_cell (i := 0) hr5 rfl
      have d1 := tblk_cell (i := 1) hr5 rfl
      have d2 := tblk_cell (i := 2) hr5 rfl
      have d3 := tblk_cell (i := 3) hr5 rfl
      have d4 := tblk_cell (i := 4) hr5 rfl
      clear hr4 hr5 hg4 D4 D5 O4 P4 B4 hp3 hkw0 hkw3 hkw hsz3 hp2 hsp O4w hpw
      generalize hxl : X1.length = xl at *
      have HXL : Hid (X1.length = xl) := hxl
      clear hxl
      have HW := five_cells hg5 (.string m) (.string t) (.int .i64 mi) (.slice fa fs.length fc) (.slice ad4 xl c4)
      have a0 := tblk_cell (i := 0) hg5 rfl
      have z0 := lblk_z (i := 0) hg5
      have a1 := tblk_cell (i := 1) hg5 rfl
      have z1 := lblk_z (i := 1) hg5
      have a2 := tblk_cell (i := 2) hg5 rfl
      have z2 := lblk_z (i := 2) hg5
      have a3 := tblk_cell (i := 3) hg5 rfl
      have z3 := lblk_z (i := 3) hg5
      have a4 := tblk_cell (i := 4) hg5 rfl
      have z4 := lblk_z (i := 4) hg5
      have r0 := tblk_cell (i := 0) HW rfl
      have r1 := tblk_cell (i := 1) HW rfl
      have r2 := tblk_cell (i := 2) HW rfl
      have r3 := tblk_cell (i := 3) HW rfl
      have r4 := tblk_cell (i := 4) HW rfl
      unfold five at r0 r1 r2 r3 r4
      clear HW hg5
      go_wp2
      refine bodyPost_ret (v := .tuple #[.agg #[.string m, .string t, .int .i64 mi, .slice fa fs.length fc, .slice ad4 xl c4], .int .i64 (X2 : Nat), .int .i64 0]) (by simp [results, Tryz.results28, go_sem, r0, r1, r2, r3, r4]) rfl ?_
      rw [HE.out]
      obtain rfl := HXL.out
      exact ⟨fa, ad4, fc, c4, rfl, HO5.out, HP5.out, HB5.out⟩
end Go.Proofs.YtajfjjmabncldaaGreatDoor

/- A row of bytes of one's own, nothing of which is frozen, though its block bears a mark behind its end: bytes made of a text, and what is appended to them. -/
namespace Go.Proofs.YtajfjjmabncldaaGreatDoor
open Go.ChangeShapes Go.WideShapes Go.ChangeAt Go.RowKit
set_option linter.unusedVariables false

def Soft (n : Nat) (fz : Nat × Nat) : Prop := ∀ i, i < n → ¬ (fz.1 ≤ i ∧ i < fz.2)
theorem storeCells_soft (P : Program) (g o : Nat) (t : TypeId) (fz : Nat × Nat) : ∀ (vs : List Value) (i : Nat) (cur : Array Value) (w : World), w.heap[g]? = some (.cells cur t fz) → Soft cur.size fz → o + i + vs.length ≤ cur.size → (∀ v ∈ vs, v.oneCell' = true) →
    (storeCells ⟨g, o, none⟩ vs i).run P w = .ok () (w.setRow g (cur.toList.take (o + i) ++ vs ++ cur.toList.drop (o + i + vs.length)).toArray)
  | [], i, cur, w, hg, _, _, _ => by
    simp only [storeCells, List.append_nil, List.length_nil, Nat.add_zero, List.take_append_drop, Array.toArray_toList]
    rw [setRow_self w g cur t fz hg]
    rfl
  | v :: rest, i, cur, w, hg, hfz, hl, h1 => by
    have hi : o + i < cur.size := by simp at hl; omega
    have hadd : (⟨g, o, none⟩ : Addr).add i = ⟨g, o + i, none⟩ := by unfold Addr.add; split <;> simp_all
    have hcell : w.cell? ⟨g, o + i, none⟩ = some cur[o + i] := by simp [World.cell?, hg, hi]
    have hfro : w.frozen? ⟨g, o + i, none⟩ = false := by
      have k := hfz (o + i) hi
      obtain ⟨lo, hi'⟩ := fz
      simp only [World.frozen?, hg, Bool.and_eq_false_iff, decide_eq_false_iff_not]
      simp only at k
      omega
    have hst : (store ((⟨g, o, none⟩ : Addr).add i) v).run P w = .ok () (w.setRow g (cur.setIfInBounds (o + i) v)) := by
      rw [hadd, run_store P w _ v _ (h1 v (by simp)), hcell]
      simp [hfro, setCell_eq_setRow w g (o + i) cur t fz v hg]
    have ih := storeCells_soft P g o t fz rest (i + 1) (cur.setIfInBounds (o + i) v) (w.setRow g (cur.setIfInBounds (o + i) v)) (setRow_heap w g cur _ t _ hg) (by rw [Array.size_setIfInBounds]; exact hfz) (by simp at hl ⊢; omega) (fun x hx => h1 x (by simp [hx]))
    simp only [storeCells, Sem.run_bind, hst, Result.andThen_ok, ih, setRow_setRow]
    congr 3
    have e := list_seg_step cur.toList (o + i) v rest (by simp at hl ⊢; omega)
    simpa [Array.toList_setIfInBounds, Nat.add_assoc] using e

/-- The bytes X, in a block from B on that the walk itself has made. -/
def OwnG (B : Nat) (w : World) (v : Value) (X : List UInt8) : Prop := ∃ g cap cur fz, v = .slice (some ⟨g, 0, none⟩) X.length cap ∧ B ≤ g ∧ w.heap[g]? = some (.cells cur 5 fz) ∧ Soft cur.size fz ∧ X.length ≤ cap ∧ cap ≤ maxLen ∧ cur.size = cap ∧ cur.toList.take X.length = rowB X
theorem OwnG.form {B : Nat} {w : World} {v : Value} {X : List UInt8} (h : OwnG B w v X) : ∃ g c, v = .slice (some ⟨g, 0, none⟩) X.length c ∧ B ≤ g ∧ g < w.heap.size := by
  obtain ⟨g, cap, cur, fz, hv, hB, hg, _⟩ := h
  exact ⟨g, cap, hv, hB, heap_lt hg⟩
theorem OwnG.mono {B C : Nat} {w : World} {v : Value} {X : List UInt8} (h : OwnG B w v X) (hC : C ≤ B) : OwnG C w v X := by
  obtain ⟨g, cap, cur, fz, hv, hB, r⟩ := h
  exact ⟨g, cap, cur, fz, hv, Nat.le_trans hC hB, r⟩
theorem OwnG.keep {B : Nat} {w w' : World} {v : Value} {X : List UInt8} (h : OwnG B w v X) (b : Below w.heap.size w w') : OwnG B w' v X := by
  obtain ⟨g, cap, cur, fz, hv, hB, hg, r⟩ := h
  exact ⟨g, cap, cur, fz, hv, hB, (b.block g (heap_lt hg)).trans hg, r⟩
theorem OwnG.cells {B g n c : Nat} {w : World} {X : List UInt8} (h : OwnG B w (.slice (some ⟨g, 0, none⟩) n c) X) (j : Nat) (hj : j < X.length) : w.cell? ⟨g, j, none⟩ = some (bv X[j]) := by
  obtain ⟨g', cap, cur, fz, hv, hB, hg, hz, hl, hm, hs, ht⟩ := h
  obtain ⟨e1, e2, e3⟩ := slice_inj hv
  have : g = g' := by simpa using e1
  subst this
  have k : (cur.toList.take X.length)[j]? = (rowB X)[j]? := by rw [ht]
  rw [List.getElem?_take, if_pos hj] at k
  unfold rowB at k
  rw [List.getElem?_map, List.getElem?_eq_getElem hj] at k
  unfold World.cell?
  rw [hg]
  simp only
  rw [← Array.getElem?_toList, k]
  rfl
theorem OwnG.src {B : Nat} {w : World} {v : Value} {X : List UInt8} (h : OwnG B w v X) : ∃ k, Src w k v X ∧ B ≤ k ∧ k < w.heap.size := by
  have h0 := h
  obtain ⟨g, cap, cur, fz, hv, hB, hg, hz, hl, hm, hs, ht⟩ := h
  refine ⟨g, ⟨_, cap, hv, hl, hm, fun _ => ⟨0, rfl, fun j hj => ?_⟩⟩, hB, heap_lt hg⟩
  rw [Nat.zero_add]
  exact (hv ▸ h0).cells j hj
theorem convG (w : World) (s : ByteArray) (hs : s.size ≤ maxLen) : ∃ v w1, (convert 9 23 (.string s)).run Tryz.prog w = .ok v w1 ∧ OwnG w.heap.size w1 v s.data.toList ∧ Below w.heap.size w w1 := by
  refine ⟨_, _, run_bytes_of_string w 9 23 5 s Tryz.underlying9 Tryz.underlying23 Tryz.underlying5, ?_, ((Below.refl _ _).drew).alloc (Nat.le_refl _) _⟩
  have hsz : (bytesRow s (grownCap w s.size 0 5)).size = grownCap w s.size 0 5 := by
    unfold bytesRow
    rw [Array.size_append, Array.size_map, Array.size_replicate]
    have := grownCap_ge w s.size 0 5
    show s.size + _ = _
    omega
  refine ⟨w.heap.size, grownCap w s.size 0 5, _, _, rfl, Nat.le_refl _, new_at w.drew _, fun i hi k => ?_, grownCap_ge _ _ _ _, grownCap_le_maxLen _ _ _ _ hs, hsz, ?_⟩
  · exact absurd k.1 (by simp only; omega)
  · unfold bytesRow
    rw [Array.toList_append, List.take_append_of_le_length (by simp), List.take_of_length_le (by simp)]
    simp [rowB, bv]
theorem rowB_str (s : ByteArray) : Lib.strCells s = rowB s.data.toList := by
  unfold Lib.strCells rowB
  rfl
/-- A text's bytes appended. -/
theorem ownG_append_str {B : Nat} {w : World} {v : Value} {X : List UInt8} {s : ByteArray} (h : OwnG B w v X) (hmax : X.length + s.size ≤ 140737488355328) (hB : B ≤ w.heap.size) :
    ∃ v' w', (Builtin.append_ #[23, 9] 23 #[v, .string s]).run Tryz.prog w = .ok v' w' ∧ OwnG B w' v' (X ++ s.data.toList) ∧ Below B w w' := by
  obtain ⟨i, hi, hz0, hz1, hz2⟩ := info_parts infoB3
  have h0 := h
  obtain ⟨g, cap, cur, fz, rfl, hBg, hg, hz, hl, hm, hs, ht⟩ := h
  have hlen : (X ++ s.data.toList).length = X.length + s.size := by rw [List.length_append]; rfl
  by_cases hroom : X.length + s.size ≤ cap
  · have hf := Lib.run_firstCells_string (P := Tryz.prog) w 1 s
    have hst := storeCells_soft Tryz.prog g X.length 5 fz (Lib.strCells s) 0 cur w hg hz (by rw [Lib.strCells_length]; omega) (Lib.strCells_oneCell s)
    simp only [Nat.add_zero, Lib.strCells_length] at hst
    refine ⟨.slice (some ⟨g, 0, none⟩) (X.length + s.size) cap, w.setRow g (cur.toList.take X.length ++ Lib.strCells s ++ cur.toList.drop (X.length + s.size)).toArray, ?_, ⟨g, cap, _, fz, by rw [hlen], hBg, setRow_heap w g cur _ 5 _ hg, ?_, by omega, hm, ?_, ?_⟩, ?_⟩
    · simp [Builtin.append_, run_underlying Tryz.underlying23, run_underlying Tryz.underlying9, sizeOf, typeInfo, hi, hz1, Builtin.lenOf, hroom, hf, Addr.add_lit, hst]
    · have e : (cur.toList.take X.length ++ Lib.strCells s ++ cur.toList.drop (X.length + s.size)).toArray.size = cur.size := by
        simp only [List.size_toArray, List.length_append, List.length_take, List.length_drop, Array.length_toList, Lib.strCells_length]
        omega
      rw [e]; exact hz
    · simp only [List.size_toArray, List.length_append, List.length_take, List.length_drop, Array.length_toList, Lib.strCells_length]
      omega
    · have e1 : (X ++ s.data.toList).length = (rowB X ++ Lib.strCells s).length := by rw [hlen, List.length_append, rowB_length, Lib.strCells_length]
      rw [ht, e1, List.toList_toArray, List.take_left, rowB_app, rowB_str]
    · exact ⟨rfl, rfl, rfl, by simp, fun k hk => setRow_other w g k _ (fun e => by omega)⟩
  · have holds : ∀ j u, (rowB X)[j]? = some u → w.cell? ((⟨g, 0, none⟩ : Addr).add j) = some u := fun j u hu => by
      have hj : j < X.length := by have := (List.getElem?_eq_some_iff.1 hu).1; rw [rowB_length] at this; exact this
      rw [addr_add, Nat.zero_add, h0.cells j hj]
      unfold rowB at hu
      rw [List.getElem?_map, List.getElem?_eq_getElem hj] at hu
      exact hu
    have hr := Lib.run_append_grow_string (P := Tryz.prog) w 23 9 23 5 i (.int .u8 0) Tryz.underlying23 Tryz.underlying9 hi hz0 ⟨g, 0, none⟩ X.length cap (rowB X) (by rw [hz1, rowB_length]; omega) holds s (by omega) (by omega) (by rw [hz2]; exact growslice_fits (by omega) (by omega))
    have hge := grownCap_ge w (X.length + s.size) cap 5
    refine ⟨_, _, hr, ⟨w.heap.size, _, _, (0, 0), by rw [hlen], hB, new_at w.drew _, fun j _ k => by simp only at k; omega, by rw [hlen]; exact hge, grownCap_le_maxLen _ _ _ _ (by unfold maxLen; omega), ?_, ?_⟩, ?_⟩
    · have hz1 : (Value.int IntKind.u8 0).cells.size = 1 := rfl
      simp only [Array.size_append, List.size_toArray, size_zeroCells, hz1, rowB_length, Lib.strCells_length]
      omega
    · have e1 : (X ++ s.data.toList).length = (rowB X ++ Lib.strCells s).length := by rw [hlen, List.length_append, rowB_length, Lib.strCells_length]
      simp only [Array.toList_append]
      rw [e1, List.take_left, rowB_app, rowB_str]
    · exact ((Below.refl _ _).drew).alloc hB _
/-- Bytes appended. -/
theorem ownG_append {B : Nat} {w : World} {k : Nat} {v : Value} {X Y : List UInt8} {a : Option Addr} {n c : Nat} (h : OwnG B w v X) (hsrc : Src w k (.slice a n c) Y) (hnil : a = none → c = 0) (hmax : X.length + Y.length ≤ 140737488355328) (hB : B ≤ w.heap.size) :
    ∃ v' w', (Builtin.append_ #[23, 23] 23 #[v, .slice a n c]).run Tryz.prog w = .ok v' w' ∧ OwnG B w' v' (X ++ Y) ∧ Below B w w' := by
  obtain ⟨i, hi, hz0, hz1, hz2⟩ := info_parts infoB3
  have h0 := h
  obtain ⟨g, cap, cur, fz, rfl, hBg, hg, hz, hl, hm, hs, ht⟩ := h
  obtain ⟨a', c', e, q1, q2, q3⟩ := hsrc
  obtain ⟨e1, e2, e3⟩ := slice_inj e
  subst e1 e2 e3
  have hlen : (X ++ Y).length = X.length + Y.length := List.length_append
  cases a with
  | none =>
    have hc := hnil rfl
    have hy : Y = [] := by
      rcases Nat.eq_zero_or_pos Y.length with q | q
      · exact List.eq_nil_of_length_eq_zero q
      · obtain ⟨_, q, _⟩ := q3 q; cases q
    subst hy hc
    refine ⟨.slice (some ⟨g, 0, none⟩) X.length cap, w, ?_, by rw [List.append_nil]; exact h0, Below.refl _ _⟩
    simp [Builtin.append_, run_underlying Tryz.underlying23, sizeOf, typeInfo, hi, Builtin.lenOf, hl, Builtin.firstCells, storeCells]
  | some ad =>
    have hnews : ∀ j u, (rowB Y)[j]? = some u → w.cell? (ad.add j) = some u := fun j u hj => by
      unfold rowB at hj
      rw [List.getElem?_map] at hj
      obtain ⟨x, hx, rfl⟩ := Option.map_eq_some_iff.1 hj
      have hjl := (List.getElem?_eq_some_iff.1 hx).1
      obtain ⟨off, ha, hc⟩ := q3 (by omega)
      have : ad = ⟨k, off, none⟩ := by simpa using ha
      subst this
      rw [addr_add, hc j hjl, (List.getElem?_eq_some_iff.1 hx).2]
    by_cases hroom : X.length + Y.length ≤ cap
    · have hf := run_firstCells_some (P := Tryz.prog) w i.size Y.length ad Y.length c (rowB Y) (by rw [rowB_length, hz1]; omega) hnews
      have hst := storeCells_soft Tryz.prog g X.length 5 fz (rowB Y) 0 cur w hg hz (by rw [rowB_length]; omega) (bvs_one _)
      rw [hz1] at hf
      simp only [Nat.add_zero, rowB_length] at hst
      refine ⟨.slice (some ⟨g, 0, none⟩) (X.length + Y.length) cap, w.setRow g (cur.toList.take X.length ++ rowB Y ++ cur.toList.drop (X.length + Y.length)).toArray, ?_, ⟨g, cap, _, fz, by rw [hlen], hBg, setRow_heap w g cur _ 5 _ hg, ?_, by omega, hm, ?_, ?_⟩, ?_⟩
      · simp [Builtin.append_, run_underlying Tryz.underlying23, sizeOf, typeInfo, hi, hz1, Builtin.lenOf, hroom, hf, Addr.add_lit, hst]
      · have e : (cur.toList.take X.length ++ rowB Y ++ cur.toList.drop (X.length + Y.length)).toArray.size = cur.size := by
          simp only [List.size_toArray, List.length_append, List.length_take, List.length_drop, Array.length_toList, rowB_length]
          omega
        rw [e]; exact hz
      · simp only [List.size_toArray, List.length_append, List.length_take, List.length_drop, Array.length_toList, rowB_length]
        omega
      · have e1 : (X ++ Y).length = (rowB X ++ rowB Y).length := by rw [hlen, List.length_append, rowB_length, rowB_length]
        rw [ht, e1, List.toList_toArray, List.take_left, rowB_app]
      · exact ⟨rfl, rfl, rfl, by simp, fun k hk => setRow_other w g k _ (fun e => by omega)⟩
    · have holds : ∀ j u, (rowB X)[j]? = some u → w.cell? ((⟨g, 0, none⟩ : Addr).add j) = some u := fun j u hu => by
        have hj : j < X.length := by have := (List.getElem?_eq_some_iff.1 hu).1; rw [rowB_length] at this; exact this
        rw [addr_add, Nat.zero_add, h0.cells j hj]
        unfold rowB at hu
        rw [List.getElem?_map, List.getElem?_eq_getElem hj] at hu
        exact hu
      have hr := run_append_grow (P := Tryz.prog) w 23 23 5 i (.int .u8 0) Tryz.underlying23 hi hz0 ⟨g, 0, none⟩ X.length cap (rowB X) (by rw [hz1, rowB_length]; omega) holds ad Y.length c (rowB Y) (by rw [hz1, rowB_length]; omega) hnews (by omega) (by omega) (by rw [hz2]; exact growslice_fits (by omega) (by omega))
      have hge := grownCap_ge w (X.length + Y.length) cap 5
      refine ⟨_, _, hr, ⟨w.heap.size, _, _, (0, 0), by rw [hlen], hB, new_at w.drew _, fun j _ k => by simp only at k; omega, by rw [hlen]; exact hge, grownCap_le_maxLen _ _ _ _ (by unfold maxLen; omega), ?_, ?_⟩, ?_⟩
      · have hz1 : (Value.int IntKind.u8 0).cells.size = 1 := rfl
        simp only [Array.size_append, List.size_toArray, size_zeroCells, hz1, rowB_length]
        omega
      · have e1 : (X ++ Y).length = (rowB X ++ rowB Y).length := by rw [hlen, List.length_append, rowB_length, rowB_length]
        simp only [Array.toList_append]
        rw [e1, List.take_left, rowB_app]
      · exact ((Below.refl _ _).drew).alloc hB _
end Go.Proofs.YtajfjjmabncldaaGreatDoor

/- A field's line. -/
namespace Go.Proofs.YtajfjjmabncldaaGreatDoor
open Go.RowKit
set_option linter.unusedVariables false

theorem cat_run (W : World) (a b : ByteArray) (h : a.size + b.size ≤ 281474976710656) : (Op.stringOp .add a b).run Tryz.prog W = .ok (.string (a ++ b)) W :=
  run_string_add_sum W a b (by omega)
/-- A field's line. -/
def lineT (n v : ByteArray) : ByteArray := n ++ ⟨#[58, 32]⟩ ++ v ++ ⟨#[13, 10]⟩
set_option maxHeartbeats 1000000 in
theorem line_any (n v : ByteArray) (w : World) (h : n.size + v.size ≤ 140737488355328) : Calls Tryz.prog 110 #[.agg #[.string n, .string v]] w fun e w' => e = .returned (.string (lineT n v)) ∧ Below w.heap.size w w' := by
  unfold lineT
  have h1 := fun W : World => cat_run W n ⟨#[58, 32]⟩ (by show _ + 2 ≤ _; omega)
  have h2 := fun W : World => cat_run W (n ++ ⟨#[58, 32]⟩) v (by rw [cat_size]; show _ + 2 + _ ≤ _; omega)
  have h3 := fun W : World => cat_run W (n ++ ⟨#[58, 32]⟩ ++ v) ⟨#[13, 10]⟩ (by rw [cat_size, cat_size]; show _ + 2 + _ + 2 ≤ _; omega)
  clear h
  go_enter Tryz.func110, Tryz.ntmps110
  go_wp2
  go_ret
  exact ⟨rfl, (Below.refl _ _).alloc (Nat.le_refl _) _⟩
end Go.Proofs.YtajfjjmabncldaaGreatDoor

/- A version and a line as they are told: plain. -/
namespace Go.Proofs.YtajfjjmabncldaaGreatDoor
open Go.RowKit
set_option linter.unusedVariables false

def verT (m : Int) : ByteArray := ⟨#[72, 84, 84, 80, 47, 49, 46]⟩ ++ itoaS m
/-- A request's line. -/
def reqT (m t v : ByteArray) : ByteArray := m ++ ⟨#[32]⟩ ++ t ++ ⟨#[32]⟩ ++ v ++ ⟨#[13, 10]⟩
end Go.Proofs.YtajfjjmabncldaaGreatDoor

/- What tells lines. -/
namespace Go.Proofs.YtajfjjmabncldaaGreatDoor
open Go.RowKit
set_option linter.unusedVariables false

theorem version_any (n : Int) (h0 : -9223372036854775808 ≤ n) (h1 : n ≤ 9223372036854775807) (hi : (itoaS n).size ≤ 21) (w : World) (ht : PowT w) :
    Calls Tryz.prog 111 #[.int .i64 n] w fun e w' => e = .returned (.string (verT n)) ∧ Below w.heap.size w w' := by
  have H : Hid (∀ W, Below w.heap.size w W → Calls Tryz.prog 80 #[.int .i64 n] W fun e w' => e = .returned (.string (itoaS n)) ∧ Below W.heap.size W w') := fun W b => text_any n h0 h1 W (ht.below b)
  have hw : IntKind.i64.wrap n = n := by simp [IntKind.wrap, IntKind.bits, IntKind.signed]; omega
  have hc := fun W : World => lcat_run W ⟨#[72, 84, 84, 80, 47, 49, 46]⟩ (itoaS n) (by show 7 + _ ≤ _; omega)
  clear h0 h1 ht hi
  unfold verT
  generalize itoaS n = t at *
  have B0 := Below.refl w.heap.size w
  go_enter Tryz.func111, Tryz.ntmps111
  go_wp2_with fail
  refine (H.out _ B0).mono ?_
  rintro e w1 ⟨rfl, B1⟩
  go_wp2
  go_ret
  exact ⟨rfl, B1⟩

set_option maxRecDepth 100000 in
set_option maxHeartbeats 2000000 in
theorem reqline_any {f1 f2 : Option Addr} {l1 k1 l2 k2 : Nat} (m t : ByteArray) (n : Int) (h0 : -9223372036854775808 ≤ n) (h1 : n ≤ 9223372036854775807) (hi : (itoaS n).size ≤ 21) (w : World) (ht : PowT w) (hm : m.size ≤ 4294967296) (hl : t.size ≤ 4294967296) :
    Calls Tryz.prog 70 #[.agg #[.string m, .string t, .int .i64 n, .slice f1 l1 k1, .slice f2 l2 k2]] w fun e w' => e = .returned (.string (reqT m t (verT n))) ∧ Below w.heap.size w w' := by
  have hv : (verT n).size ≤ 28 := by unfold verT; rw [lcat_size]; show 7 + _ ≤ _; omega
  have H : Hid (∀ W, PI w (.cells #[.string m, .string t, .int .i64 n, .slice f1 l1 k1, .slice f2 l2 k2] 25) W → Calls Tryz.prog 111 #[.int .i64 n] W fun e w' => e = .returned (.string (verT n)) ∧ PI w (.cells #[.string m, .string t, .int .i64 n, .slice f1 l1 k1, .slice f2 l2 k2] 25) w' ∧ w'.cell? ⟨w.heap.size, 0, none⟩ = some (.string m) ∧ w'.cell? ⟨w.heap.size, 1, none⟩ = some (.string t) ∧ w'.cell? ⟨w.heap.size, 2, none⟩ = some (.int .i64 n)) := fun W i => (version_any n h0 h1 hi W (ht.below i.below)).mono fun e w' z => ⟨z.1, i.next z.2, tblk_cell (i.next z.2).own rfl, tblk_cell (i.next z.2).own rfl, tblk_cell (i.next z.2).own rfl⟩
  generalize verT n = v at *
  have c1 := fun W : World => lcat_run W m ⟨#[32]⟩ (by show _ + 1 ≤ _; omega)
  have c2 := fun W : World => lcat_run W (m ++ ⟨#[32]⟩) t (by rw [lcat_size]; show _ + 1 + _ ≤ _; omega)
  have c3 := fun W : World => lcat_run W (m ++ ⟨#[32]⟩ ++ t) ⟨#[32]⟩ (by rw [lcat_size, lcat_size]; show _ + 1 + _ + 1 ≤ _; omega)
  have c4 := fun W : World => lcat_run W (m ++ ⟨#[32]⟩ ++ t ++ ⟨#[32]⟩) v (by rw [lcat_size, lcat_size, lcat_size]; show _ + 1 + _ + 1 + _ ≤ _; omega)
  have c5 := fun W : World => lcat_run W (m ++ ⟨#[32]⟩ ++ t ++ ⟨#[32]⟩ ++ v) ⟨#[13, 10]⟩ (by rw [lcat_size, lcat_size, lcat_size, lcat_size]; show _ + 1 + _ + 1 + _ + 2 ≤ _; omega)
  have I0 := PI.new w (.cells #[.string m, .string t, .int .i64 n, .slice f1 l1 k1, .slice f2 l2 k2] 25)
  clear h0 h1 ht hi hm hl hv
  unfold reqT
  go_enter Tryz.func70, Tryz.ntmps70
  go_wp2_with fail
  go_region_held3 (fun W => W.cell? ⟨w.heap.size, 0, none⟩ = some (.string m) ∧ W.cell? ⟨w.heap.size, 1, none⟩ = some (.string t) ∧ W.cell? ⟨w.heap.size, 2, none⟩ = some (.int .i64 n)) (go_keep) (first | (go_at_call 111; refine (H.out _ (by first | assumption | exact PI.drew I0 | exact PI.drew (by assumption))).mono ?_; rintro e w' ⟨rfl, hI, hS0, hS1, hS2⟩))
  go_wp2
  go_ret
  exact ⟨rfl, hI.below⟩

set_option maxHeartbeats 1000000 in
theorem codetext_any (n : Int) (h0 : -9223372036854775808 ≤ n) (h1 : n ≤ 9223372036854775807) (hi : (itoaS n).size = 3) (hn : hasP (itoaS n) ⟨#[45]⟩ = false) (w : World) (ht : PowT w) :
    Calls Tryz.prog 114 #[.int .i64 n] w fun e w' => e = .returned (.string (itoaS n)) ∧ Below w.heap.size w w' := by
  have H : Hid (∀ W, Below w.heap.size w W → Calls Tryz.prog 80 #[.int .i64 n] W fun e w' => e = .returned (.string (itoaS n)) ∧ Below W.heap.size W w') := fun W b => text_any n h0 h1 W (ht.below b)
  have hw : IntKind.i64.wrap n = n := by simp [IntKind.wrap, IntKind.bits, IntKind.signed]; omega
  have HC : Hid (∀ W, Calls Tryz.prog 150 #[.string (itoaS n), .string ⟨#[45]⟩] W fun e w' => e = .returned (.tuple #[.string (itoaS n), .bool false]) ∧ w' = W) := fun W => by
    have k := cutprefix_any (itoaS n) ⟨#[45]⟩ W
    unfold cutP at k
    rw [hn, if_neg (by decide)] at k
    exact k
  have hc := fun W : World => lcat_run W ⟨#[]⟩ (itoaS n) (by show 0 + _ ≤ _; omega)
  have he : (⟨#[]⟩ : ByteArray) ++ itoaS n = itoaS n := by
    obtain ⟨⟨l⟩⟩ := itoaS n
    exact ByteArray.empty_append
  rw [he] at hc
  have hz : ((itoaS n).size : Int) = 3 := by omega
  clear h0 h1 ht hi he hn
  generalize itoaS n = t at *
  have B0 := Below.refl w.heap.size w
  go_enter Tryz.func114, Tryz.ntmps114
  go_wp2_with fail
  refine (H.out _ B0).mono ?_
  rintro e w1 ⟨rfl, B1⟩
  go_wp2_with fail
  refine (HC.out _).mono ?_
  rintro e w2 ⟨rfl, rfl⟩
  go_wp2
  go_ret
  exact ⟨rfl, B1⟩

/-- A response's line. -/
def staT (v c r : ByteArray) : ByteArray := v ++ ⟨#[32]⟩ ++ c ++ ⟨#[32]⟩ ++ r ++ ⟨#[13, 10]⟩
set_option maxRecDepth 100000 in
set_option maxHeartbeats 2000000 in
theorem statline_any {f1 f2 : Option Addr} {l1 k1 l2 k2 : Nat} (code n : Int) (r : ByteArray) (hi : (itoaS n).size ≤ 21) (h0 : -9223372036854775808 ≤ n) (h1 : n ≤ 9223372036854775807) (hc0 : -9223372036854775808 ≤ code) (hc1 : code ≤ 9223372036854775807) (hc3 : (itoaS code).size = 3) (hcn : hasP (itoaS code) ⟨#[45]⟩ = false) (w : World) (ht : PowT w) (hm : r.size ≤ 4294967296) :
    Calls Tryz.prog 72 #[.agg #[.int .i64 code, .string r, .int .i64 n, .slice f1 l1 k1, .slice f2 l2 k2]] w fun e w' => e = .returned (.string (staT (verT n) (itoaS code) r)) ∧ Below w.heap.size w w' := by
  have hv : (verT n).size ≤ 28 := by unfold verT; rw [lcat_size]; show 7 + _ ≤ _; omega
  have H : Hid (∀ W, PI w (.cells #[.int .i64 code, .string r, .int .i64 n, .slice f1 l1 k1, .slice f2 l2 k2] 40) W → Calls Tryz.prog 111 #[.int .i64 n] W fun e w' => e = .returned (.string (verT n)) ∧ PI w (.cells #[.int .i64 code, .string r, .int .i64 n, .slice f1 l1 k1, .slice f2 l2 k2] 40) w' ∧ w'.cell? ⟨w.heap.size, 0, none⟩ = some (.int .i64 code) ∧ w'.cell? ⟨w.heap.size, 1, none⟩ = some (.string r) ∧ w'.cell? ⟨w.heap.size, 2, none⟩ = some (.int .i64 n)) := fun W i => (version_any n h0 h1 hi W (ht.below i.below)).mono fun e w' z => ⟨z.1, i.next z.2, tblk_cell (i.next z.2).own rfl, tblk_cell (i.next z.2).own rfl, tblk_cell (i.next z.2).own rfl⟩
  have HC : Hid (∀ W, PI w (.cells #[.int .i64 code, .string r, .int .i64 n, .slice f1 l1 k1, .slice f2 l2 k2] 40) W → Calls Tryz.prog 114 #[.int .i64 code] W fun e w' => e = .returned (.string (itoaS code)) ∧ PI w (.cells #[.int .i64 code, .string r, .int .i64 n, .slice f1 l1 k1, .slice f2 l2 k2] 40) w' ∧ w'.cell? ⟨w.heap.size, 0, none⟩ = some (.int .i64 code) ∧ w'.cell? ⟨w.heap.size, 1, none⟩ = some (.string r) ∧ w'.cell? ⟨w.heap.size, 2, none⟩ = some (.int .i64 n)) := fun W i => (codetext_any code hc0 hc1 hc3 hcn W (ht.below i.below)).mono fun e w' z => ⟨z.1, i.next z.2, tblk_cell (i.next z.2).own rfl, tblk_cell (i.next z.2).own rfl, tblk_cell (i.next z.2).own rfl⟩
  clear hcn
  generalize verT n = v at *
  generalize itoaS code = c at *
  have c1 := fun W : World => lcat_run W v ⟨#[32]⟩ (by show _ + 1 ≤ _; omega)
  have c2 := fun W : World => lcat_run W (v ++ ⟨#[32]⟩) c (by rw [lcat_size]; show _ + 1 + _ ≤ _; omega)
  have c3 := fun W : World => lcat_run W (v ++ ⟨#[32]⟩ ++ c) ⟨#[32]⟩ (by rw [lcat_size, lcat_size]; show _ + 1 + _ + 1 ≤ _; omega)
  have c4 := fun W : World => lcat_run W (v ++ ⟨#[32]⟩ ++ c ++ ⟨#[32]⟩) r (by rw [lcat_size, lcat_size, lcat_size]; show _ + 1 + _ + 1 + _ ≤ _; omega)
  have c5 := fun W : World => lcat_run W (v ++ ⟨#[32]⟩ ++ c ++ ⟨#[32]⟩ ++ r) ⟨#[13, 10]⟩ (by rw [lcat_size, lcat_size, lcat_size, lcat_size]; show _ + 1 + _ + 1 + _ + 2 ≤ _; omega)
  have I0 := PI.new w (.cells #[.int .i64 code, .string r, .int .i64 n, .slice f1 l1 k1, .slice f2 l2 k2] 40)
  clear h0 h1 ht hi hm hv hc0 hc1 hc3
  unfold staT
  go_enter Tryz.func72, Tryz.ntmps72
  go_wp2_with fail
  go_region_held3 (fun W => W.cell? ⟨w.heap.size, 0, none⟩ = some (.int .i64 code) ∧ W.cell? ⟨w.heap.size, 1, none⟩ = some (.string r) ∧ W.cell? ⟨w.heap.size, 2, none⟩ = some (.int .i64 n)) (go_keep) (first | (go_at_call 111; refine (H.out _ (by first | assumption | exact PI.drew I0 | exact PI.drew (by assumption))).mono ?_; rintro e w' ⟨rfl, hI, hS0, hS1, hS2⟩) | (go_at_call 114; refine (HC.out _ (by first | assumption | exact PI.drew I0 | exact PI.drew (by assumption))).mono ?_; rintro e w' ⟨rfl, hI, hS0, hS1, hS2⟩))
  go_wp2
  go_ret
  exact ⟨rfl, hI.below⟩
end Go.Proofs.YtajfjjmabncldaaGreatDoor

/- What the contracts of lines lean on. -/
namespace Go.Proofs.YtajfjjmabncldaaGreatDoor
open Go.RowKit
set_option linter.unusedVariables false

/-- What the contracts lean on. -/
structure Lv (w : World) : Prop where
  max : MaxL w
  pow : PowT w
theorem Lv.below {w w' : World} (h : Lv w) (b : Below w.heap.size w w') : Lv w' := ⟨h.max.below b, h.pow.below b⟩

end Go.Proofs.YtajfjjmabncldaaGreatDoor

/- Package http: what is written; Host; Waits. -/
namespace Go.Proofs.YtajfjjmabncldaaGreatDoor
open Go.RowKit
set_option linter.unusedVariables false

def linesB (fs : Fs) : List UInt8 := fs.flatMap fun f => (lineT f.1 f.2).data.toList
def writeB (first : ByteArray) (fs : Fs) (body : List UInt8) : List UInt8 := first.data.toList ++ linesB fs ++ [13, 10] ++ body
theorem linesB_snoc (fs : Fs) (f : ByteArray × ByteArray) : linesB (fs ++ [f]) = linesB fs ++ (lineT f.1 f.2).data.toList := by
  unfold linesB
  rw [List.flatMap_append]
  simp
theorem lineT_size (n v : ByteArray) : (lineT n v).size = n.size + v.size + 4 := by
  unfold lineT
  simp only [ByteArray.size_append]
  show n.size + 2 + v.size + 2 = _
  omega
theorem linesB_len {N : Nat} : ∀ (fs : Fs), FBd N fs → (linesB fs).length ≤ fs.length * (2 * N + 4)
  | [], _ => Nat.zero_le _
  | f :: l, h => by
    have k := linesB_len l (fun g hg => h g (List.mem_cons_of_mem _ hg))
    have hf := h f (List.mem_cons_self ..)
    have e : linesB (f :: l) = (lineT f.1 f.2).data.toList ++ linesB l := by unfold linesB; rw [List.flatMap_cons]
    have e2 : (lineT f.1 f.2).data.toList.length = (lineT f.1 f.2).size := rfl
    rw [e, List.length_append, e2, lineT_size, List.length_cons, Nat.succ_mul]
    omega

set_option maxRecDepth 100000 in
set_option maxHeartbeats 2000000 in
theorem write_any (first : ByteArray) (fs : Fs) (body : List UInt8) (a b : Option Addr) (kb c d : Nat) (w : World) (hf : Fds w.heap.size w (.slice a fs.length c) fs) (hb : FBd 1048576 fs) (hl : fs.length ≤ 1024) (hs : Src w kb (.slice b body.length d) body) (hk : 0 < body.length → kb < w.heap.size) (hnil : b = none → d = 0) (hf1 : first.size ≤ 4294967296) (hb1 : body.length ≤ 4294967296) :
    Calls Tryz.prog 69 #[.string first, .slice a fs.length c, .slice b body.length d] w fun e w' => ∃ v, e = .returned v ∧ OwnG w.heap.size w' v (writeB first fs body) ∧ Below w.heap.size w w' := by
  have hlm := hf.len
  have HLB : Hid (∀ k, (linesB (fs.take k)).length ≤ 4294967296) := fun k => by
    have q := linesB_len (N := 1048576) (fs.take k) (fun g hg => hb g (List.mem_of_mem_take hg))
    have q2 : (fs.take k).length ≤ 1024 := Nat.le_trans (List.length_take_le' ..) hl
    have q3 : (fs.take k).length * (2 * 1048576 + 4) ≤ 1024 * (2 * 1048576 + 4) := Nat.mul_le_mul_right _ q2
    omega
  obtain ⟨v1, w1, r1, O1, B1⟩ := convG w first (by unfold maxLen; omega)
  obtain ⟨g1, c1, rfl, hg1, _⟩ := O1.form
  have HF1 : Hid (first.data.toList.length ≤ 4294967296) := hf1
  have HB1' : Hid (body.length ≤ 4294967296) := hb1
  have hcv : (convert 9 23 (.string first)).run Tryz.prog w = .ok (.slice (some ⟨g1, 0, none⟩) first.data.toList.length c1) w1 := r1
  have HFD : Hid (Fds w.heap.size w (.slice a fs.length c) fs) := hf
  have HS : Hid (Src w kb (.slice b body.length d) body) := hs
  have HK : Hid (0 < body.length → kb < w.heap.size) := hk
  have HNI : Hid (b = none → d = 0) := hnil
  have HBD : Hid (FBd 1048576 fs) := hb
  have hfl : fs.length ≤ 1024 := hl
  clear hf hb hs hk hnil hf1 hb1 r1 hlm hl
  -- what stands behind the loop
  have HEND : Hid (∀ (wr : World) (v7 : Value), OwnG w.heap.size wr v7 (first.data.toList ++ linesB fs) → Below w.heap.size w wr → ∃ v8 w8, (Builtin.append_ #[23, 9] 23 #[v7, .string ⟨#[13, 10]⟩]).run Tryz.prog wr = .ok v8 w8 ∧ ∃ v9 w9, (Builtin.append_ #[23, 23] 23 #[v8, .slice b body.length d]).run Tryz.prog w8 = .ok v9 w9 ∧ OwnG w.heap.size w9 v9 (writeB first fs body) ∧ Below w.heap.size w w9) := fun wr v7 hO hB => by
    have q := HLB.out fs.length
    rw [List.take_length] at q
    have q1 := HF1.out
    have q2 := HB1'.out
    obtain ⟨v8, w8, r8, O8, B8⟩ := ownG_append_str (s := ⟨#[13, 10]⟩) hO (by rw [List.length_append]; show _ + 2 ≤ _; omega) hB.size
    have C8 := hB.trans B8
    obtain ⟨v9, w9, r9, O9, B9⟩ := ownG_append O8 (HS.out.keep HK.out C8) HNI.out (by rw [List.length_append, List.length_append]; show _ + _ + 2 + _ ≤ _; omega) C8.size
    exact ⟨v8, w8, r8, v9, w9, r9, O9, C8.trans B9⟩
  rcases Nat.eq_zero_or_pos fs.length with h0 | hp
  · have he : fs = [] := List.eq_nil_of_length_eq_zero h0
    subst he
    obtain ⟨v8, w8, r8, v9, w9, r9, O9, B9⟩ := HEND.out w1 _ (by rw [show linesB [] = [] from rfl, List.append_nil]; exact O1) B1
    have HR8 : Hid ((Builtin.append_ #[23, 9] 23 #[.slice (some ⟨g1, 0, none⟩) first.data.toList.length c1, .string ⟨#[13, 10]⟩]).run Tryz.prog w1 = .ok v8 w8) := r8
    have HR9 : Hid ((Builtin.append_ #[23, 23] 23 #[v8, .slice b body.length d]).run Tryz.prog w8 = .ok v9 w9) := r9
    have HO9 : Hid (OwnG w.heap.size w9 v9 (writeB first [] body)) := O9
    clear h0 HLB HEND O1 B1 r8 r9 O9 HFD HS HK HNI HBD hfl HF1 HB1' hg1
    generalize first.data.toList.length = fl at *
    generalize body.length = bl at *
    go_enter Tryz.func69, Tryz.ntmps69
    go_wp2_with fail
    refine wp_loop_rounds 1 ?_
    rw [rounds_succ]
    go_wp2_with (at_builtin; first | refine wpList_append_run2 rfl _ _ 23 9 rfl _ _ _ w8 rfl rfl HR8.out ?_ | refine wpList_append_run2 rfl _ _ 23 23 rfl _ _ _ w9 rfl rfl HR9.out ?_)
    go_ret
    exact ⟨_, rfl, HO9.out, B9⟩
  · obtain ⟨a', c', e, _, h1, h2, h3⟩ := HFD.out
    obtain ⟨rfl, _, rfl⟩ := slice_inj e
    obtain ⟨g, off, rfl, hg, hc⟩ := h3 hp
    have HC : Hid (∀ (j : Nat) (hj : j < fs.length), w.cell? ⟨g, off + j * 2, none⟩ = some (.string fs[j].1) ∧ w.cell? ⟨g, off + j * 2 + 1, none⟩ = some (.string fs[j].2)) := hc
    have HO1 : Hid (OwnG w.heap.size w1 (.slice (some ⟨g1, 0, none⟩) first.data.toList.length c1) (first.data.toList ++ linesB (fs.take 0))) := by
      rw [Hid, show linesB (fs.take 0) = [] from rfl, List.append_nil]; exact O1
    clear e h1 h2 h3 hc HFD O1
    go_enter Tryz.func69, Tryz.ntmps69
    go_wp2_with fail
    go_loopw [7, 14] (fun v vi wr => ∃ k : Nat, k ≤ fs.length ∧ vi = .int .i64 k ∧ OwnG w.heap.size wr v (first.data.toList ++ linesB (fs.take k)) ∧ Below w.heap.size w wr) (fun _ vi _ => fs.length - (intOf vi).toNat)
    case atStart => exact ⟨0, Nat.zero_le _, rfl, HO1.out, B1⟩
    case round =>
      obtain ⟨k, hk, rfl, hown, hB⟩ := hrel
      by_cases hlt : k < fs.length
      · have hc1 := (hB.cell (p := ⟨g, off + k * 2, none⟩) hg).trans (HC.out k hlt).1
        have hc2 := (hB.cell (p := ⟨g, off + k * 2 + 1, none⟩) hg).trans (HC.out k hlt).2
        have hsz := HBD.out fs[k] (List.getElem_mem hlt)
        have hsn : Hid (first.data.toList ++ linesB (fs.take (k + 1)) = (first.data.toList ++ linesB (fs.take k)) ++ (lineT fs[k].1 fs[k].2).data.toList) := by
          rw [Hid, List.take_succ_eq_append_getElem hlt, linesB_snoc, List.append_assoc]
        have hk1 := HLB.out k
        have HLN : Hid (∀ W, Calls Tryz.prog 110 #[.agg #[.string fs[k].1, .string fs[k].2]] W fun e w' => e = .returned (.string (lineT fs[k].1 fs[k].2)) ∧ Below W.heap.size W w') := fun W => line_any _ _ W (by omega)
        have hls : Hid ((first.data.toList ++ linesB (fs.take k)).length + (lineT fs[k].1 fs[k].2).size ≤ 140737488355328) := by
          rw [Hid, List.length_append, lineT_size]; have := HF1.out; omega
        generalize fs[k] = f at *
        obtain ⟨fn, fv⟩ := f
        simp only at hc1 hc2 hsn HLN hls
        generalize lineT fn fv = ln at *
        obtain ⟨gv, cv, rfl, hgv, _⟩ := hown.form
        have HO : Hid (OwnG w.heap.size wr (.slice (some ⟨gv, 0, none⟩) (first.data.toList ++ linesB (fs.take k)).length cv) (first.data.toList ++ linesB (fs.take k))) := hown
        clear hsz hown hk1 hgv
        generalize first.data.toList ++ linesB (fs.take k) = K at *
        go_wp2_with fail
        refine (HLN.out _).mono ?_
        rintro e w2 ⟨rfl, B2⟩
        have C2 : Below wr.heap.size wr w2 := ((Below.refl _ _).alloc (Nat.le_refl _) _).trans (B2.mono (by simp))
        have hB2 := hB.trans (C2.mono hB.size)
        obtain ⟨v4, w4, r4, own4, B4⟩ := ownG_append_str (s := ln) (HO.out.keep C2) hls.out hB2.size
        have hB4 := hB2.trans B4
        have HR : Hid ((Builtin.append_ #[23, 9] 23 #[.slice (some ⟨gv, 0, none⟩) K.length cv, .string ln]).run Tryz.prog w2 = .ok v4 w4) := r4
        have HO4 : Hid (OwnG w.heap.size w4 v4 (K ++ ln.data.toList)) := own4
        clear B2 C2 hB hB2 B4 r4 own4 HO hc1 hc2 HLN hls
        generalize K.length = kl at *
        go_wp2_with (at_builtin; refine wpList_append_run2 rfl _ _ 23 9 rfl _ _ _ w4 rfl rfl HR.out ?_)
        go_roundw
        case rel => exact ⟨k + 1, by omega, by go_num, by rw [hsn.out]; exact HO4.out, hB4⟩
        case measure => simp [intOf]; omega
      · have hk' : k = fs.length := by omega
        subst hk'
        rw [List.take_length] at hown
        obtain ⟨v8, w8, r8, v9, w9, r9, O9, B9⟩ := HEND.out wr _ hown hB
        obtain ⟨gv, cv, rfl, hgv, _⟩ := hown.form
        generalize (first.data.toList ++ linesB fs).length = kl at *
        have HR8 : Hid ((Builtin.append_ #[23, 9] 23 #[.slice (some ⟨gv, 0, none⟩) kl cv, .string ⟨#[13, 10]⟩]).run Tryz.prog wr = .ok v8 w8) := r8
        have HR9 : Hid ((Builtin.append_ #[23, 23] 23 #[v8, .slice b body.length d]).run Tryz.prog w8 = .ok v9 w9) := r9
        have HO9 : Hid (OwnG w.heap.size w9 v9 (writeB first fs body)) := O9
        clear hown hB r8 r9 O9 hgv
        generalize body.length = bl at *
        go_wp2_with (at_builtin; first | refine wpList_append_run2 rfl _ _ 23 9 rfl _ _ _ w8 rfl rfl HR8.out ?_ | refine wpList_append_run2 rfl _ _ 23 23 rfl _ _ _ w9 rfl rfl HR9.out ?_)
        go_ret
        exact ⟨_, rfl, HO9.out, B9⟩
end Go.Proofs.YtajfjjmabncldaaGreatDoor

/- Package http: WriteResponse. -/
namespace Go.Proofs.YtajfjjmabncldaaGreatDoor
open Go.RowKit
set_option linter.unusedVariables false

set_option maxRecDepth 100000 in
set_option maxHeartbeats 4000000 in
theorem wresp_any (code n : Int) (r : ByteArray) (fs : Fs) (body : List UInt8) (a b : Option Addr) (kb c d : Nat) (h0 : -9223372036854775808 ≤ n) (h1 : n ≤ 9223372036854775807) (hi : (itoaS n).size ≤ 21) (hc0 : -9223372036854775808 ≤ code) (hc1 : code ≤ 9223372036854775807) (hc3 : (itoaS code).size = 3) (hcn : hasP (itoaS code) ⟨#[45]⟩ = false) (w : World) (ht : PowT w) (hm : r.size ≤ 1048576) (hf : Fds w.heap.size w (.slice a fs.length c) fs) (hb : FBd 1048576 fs) (hl : fs.length ≤ 1024) (hs : Src w kb (.slice b body.length d) body) (hk : 0 < body.length → kb < w.heap.size) (hnil : b = none → d = 0) (hb1 : body.length ≤ 1048576) :
    Calls Tryz.prog 33 #[.agg #[.int .i64 code, .string r, .int .i64 n, .slice a fs.length c, .slice b body.length d]] w fun e w' => ∃ v, e = .returned v ∧ OwnG w.heap.size w' v (writeB (staT (verT n) (itoaS code) r) fs body) ∧ Below w.heap.size w w' := by
  have hv : (verT n).size ≤ 28 := by unfold verT; rw [lcat_size]; show 7 + _ ≤ _; omega
  have hrs : (staT (verT n) (itoaS code) r).size ≤ 4294967296 := by
    unfold staT
    rw [lcat_size, lcat_size, lcat_size, lcat_size, lcat_size]
    show _ + 1 + _ + 1 + _ + 2 ≤ _
    omega
  have H : Hid (∀ W, PI w (.cells #[.int .i64 code, .string r, .int .i64 n, .slice a fs.length c, .slice b body.length d] 40) W → Calls Tryz.prog 72 #[.agg #[.int .i64 code, .string r, .int .i64 n, .slice a fs.length c, .slice b body.length d]] W fun e w' => e = .returned (.string (staT (verT n) (itoaS code) r)) ∧ PI w (.cells #[.int .i64 code, .string r, .int .i64 n, .slice a fs.length c, .slice b body.length d] 40) w' ∧ w'.cell? ⟨w.heap.size, 0, none⟩ = some (.int .i64 code) ∧ w'.cell? ⟨w.heap.size, 1, none⟩ = some (.string r) ∧ w'.cell? ⟨w.heap.size, 2, none⟩ = some (.int .i64 n) ∧ w'.cell? ⟨w.heap.size, 3, none⟩ = some (.slice a fs.length c) ∧ w'.cell? ⟨w.heap.size, 4, none⟩ = some (.slice b body.length d)) := fun W i => (statline_any code n r hi h0 h1 hc0 hc1 hc3 hcn W (ht.below i.below) (by omega)).mono fun e w' z => ⟨z.1, i.next z.2, tblk_cell (i.next z.2).own rfl, tblk_cell (i.next z.2).own rfl, tblk_cell (i.next z.2).own rfl, tblk_cell (i.next z.2).own rfl, tblk_cell (i.next z.2).own rfl⟩
  have HW : Hid (∀ W, PI w (.cells #[.int .i64 code, .string r, .int .i64 n, .slice a fs.length c, .slice b body.length d] 40) W → Calls Tryz.prog 69 #[.string (staT (verT n) (itoaS code) r), .slice a fs.length c, .slice b body.length d] W fun e w' => ∃ v, e = .returned v ∧ OwnG w.heap.size w' v (writeB (staT (verT n) (itoaS code) r) fs body) ∧ Below w.heap.size w w' ∧ w'.cell? ⟨w.heap.size, 0, none⟩ = some (.int .i64 code) ∧ w'.cell? ⟨w.heap.size, 1, none⟩ = some (.string r) ∧ w'.cell? ⟨w.heap.size, 2, none⟩ = some (.int .i64 n) ∧ w'.cell? ⟨w.heap.size, 3, none⟩ = some (.slice a fs.length c) ∧ w'.cell? ⟨w.heap.size, 4, none⟩ = some (.slice b body.length d)) := fun W i => by
    refine (write_any _ fs body a b kb c d W (hf.over i.below) hb hl (hs.keep hk i.below) (fun q => Nat.lt_of_lt_of_le (hk q) i.below.size) hnil hrs (by omega)).mono ?_
    rintro e w' ⟨v, he, hO, hB⟩
    exact ⟨v, he, hO.mono i.below.size, i.below.trans (hB.mono i.below.size), tblk_cell (i.next hB).own rfl, tblk_cell (i.next hB).own rfl, tblk_cell (i.next hB).own rfl, tblk_cell (i.next hB).own rfl, tblk_cell (i.next hB).own rfl⟩
  have I0 := PI.new w (.cells #[.int .i64 code, .string r, .int .i64 n, .slice a fs.length c, .slice b body.length d] 40)
  generalize writeB (staT (verT n) (itoaS code) r) fs body = X at *
  generalize staT (verT n) (itoaS code) r = first at *
  clear h0 h1 ht hi hm hv hf hb hl hs hk hnil hb1 hrs hc0 hc1 hc3 hcn
  generalize fs.length = fl at *
  generalize body.length = bl at *
  go_enter Tryz.func33, Tryz.ntmps33
  go_wp2_with fail
  go_region_held3 (fun W => W.cell? ⟨w.heap.size, 0, none⟩ = some (.int .i64 code) ∧ W.cell? ⟨w.heap.size, 1, none⟩ = some (.string r) ∧ W.cell? ⟨w.heap.size, 2, none⟩ = some (.int .i64 n) ∧ W.cell? ⟨w.heap.size, 3, none⟩ = some (.slice a fl c) ∧ W.cell? ⟨w.heap.size, 4, none⟩ = some (.slice b bl d)) (go_keep) (first | (go_at_call 72; refine (H.out _ (by first | assumption | exact PI.drew I0 | exact PI.drew (by assumption))).mono ?_; rintro e w' ⟨rfl, hI, hS0, hS1, hS2, hS3, hS4⟩) | (go_at_call 69; refine (HW.out _ (by first | assumption | exact PI.drew I0 | exact PI.drew (by assumption))).mono ?_; rintro e w' ⟨vx, rfl, hO, hB, hS0, hS1, hS2, hS3, hS4⟩))
  go_wp2
  go_ret
  exact ⟨_, rfl, hO, hB⟩
end Go.Proofs.YtajfjjmabncldaaGreatDoor
