/- Package http: the lines of a request's head. -/
import Derived.Test.YthbjdbookiejeabGreatDoorHtB
import Derived.Test.YthbjdbookiejeabGreatDoorFsN
namespace Go.Proofs.YthbjdbookiejeabGreatDoor
open Go.RowKit
set_option linter.unusedVariables false

set_option maxRecDepth 100000 in
set_option maxHeartbeats 2000000 in
theorem head1_any (s : ByteArray) (Y0 Y1 Y2 Y3 Y4 : Value) (u W : World) (hP : PI u (.cells #[Y0, Y1, Y2, Y3, Y4] 26) W) (hs : s.size < 4294967281) (hM : MaxL u) :
    Calls Tryz.prog 29 #[.string s, .pointer (some ⟨u.heap.size, 0, none⟩)] W fun e w' => e = .returned (.int .i64 (rqSt s)) ∧ PI u (.cells #[.string (rqP s).method, .string (rqP s).target, .int .i64 (rqP s).minor, .slice none 0 0, .slice none 0 0] 26) w' ∧ W.heap.size ≤ w'.heap.size := by
  have HL : Hid (Calls Tryz.prog 24 #[.string s] W fun e w' => e = .returned (.tuple #[.agg #[.string (rqP s).method, .string (rqP s).target, .int .i64 (rqP s).minor, .slice none 0 0, .slice none 0 0], .int .i64 (rqSt s)]) ∧ Below W.heap.size W w') := lreq_any s W hs (hM.below hP.below)
  have HP : Hid _ := hP
  clear hs hM hP
  generalize rqSt s = st at *
  generalize (rqP s).method = m at *
  generalize (rqP s).target = t at *
  generalize (rqP s).minor = mi at *
  go_enter Tryz.func29, Tryz.ntmps29
  go_wp2_with fail
  refine HL.out.mono ?_
  rintro e w1 ⟨rfl, B1⟩
  have P1 := HP.out.next B1
  have hg2 := P1.own
  have HW := five_cells hg2 (.string m) (.string t) (.int .i64 mi) (.slice none 0 0) (.slice none 0 0)
  have HB := five_below (.string m) (.string t) (.int .i64 mi) (.slice none 0 0) (.slice none 0 0) P1.below (Nat.le_refl _)
  have a0 := tblk_cell (i := 0) hg2 rfl
  have z0 := lblk_z (i := 0) hg2
  have a1 := tblk_cell (i := 1) hg2 rfl
  have z1 := lblk_z (i := 1) hg2
  have a2 := tblk_cell (i := 2) hg2 rfl
  have z2 := lblk_z (i := 2) hg2
  have a3 := tblk_cell (i := 3) hg2 rfl
  have z3 := lblk_z (i := 3) hg2
  have a4 := tblk_cell (i := 4) hg2 rfl
  have z4 := lblk_z (i := 4) hg2
  have hsz : Hid (W.heap.size ≤ (five w1 u.heap.size (.string m) (.string t) (.int .i64 mi) (.slice none 0 0) (.slice none 0 0)).heap.size) := by
    rw [Hid]; unfold five; simp; exact B1.size
  have HX : Hid (PI u (.cells #[.string m, .string t, .int .i64 mi, .slice none 0 0, .slice none 0 0] 26) (five w1 u.heap.size (.string m) (.string t) (.int .i64 mi) (.slice none 0 0) (.slice none 0 0))) := ⟨HB, HW⟩
  unfold five at HX hsz
  clear HB HW hg2 P1 B1 HL HP
  go_wp2
  go_ret
  exact ⟨rfl, HX.out, hsz.out⟩

set_option maxRecDepth 100000 in
set_option maxHeartbeats 4000000 in
theorem readA_any (b : List UInt8) (kb c : Nat) (a : Option Addr) (Y0 Y1 Y2 Y3 Y4 : Value) (u W : World) (hP : PI u (.cells #[Y0, Y1, Y2, Y3, Y4] 26) W) (hs : Src u kb (.slice a b.length c) b) (hk : 0 < b.length → kb < u.heap.size) (hM : MaxL u) :
    Calls Tryz.prog 28 #[.slice a b.length c, .func (.func 29) #[] #[.pointer (some ⟨u.heap.size, 0, none⟩)]] W fun e w' => ∃ fa fc, e = .returned (.tuple #[.slice fa (headL rqSt b).1.length fc, .int .i64 ((headL rqSt b).2.1 : Nat), .int .i64 (headL rqSt b).2.2]) ∧ OwnF W.heap.size w' (.slice fa (headL rqSt b).1.length fc) (headL rqSt b).1 ∧
      ∃ o, PI u o w' ∧ (¬ (headL rqSt b).2.1 = 0 → o = .cells #[.string (rqP (firstL b)).method, .string (rqP (firstL b)).target, .int .i64 (rqP (firstL b)).minor, .slice none 0 0, .slice none 0 0] 26) := by
  have hlen := hs.len
  obtain ⟨n, hn⟩ : ∃ n, n = b.length := ⟨_, rfl⟩
  have HN : Hid (n = b.length) := hn
  have HCUT : Hid (∀ (X : World) (at_ : Nat), Below u.heap.size u X → at_ ≤ min 2048 n → Calls Tryz.prog 64 #[.slice a n c, .int .i64 (at_ : Nat)] X fun e w' => e = .returned (hcutV b at_) ∧ w' = X) := fun X at_ hX ha => by
    have k := hcut_any b kb c a at_ X (hs.keep hk hX) (by omega)
    rw [← hn] at k
    exact k
  have HOK : Hid (FlOk 40 (min 2048 b.length) (headL rqSt b)) := headL_ok _ _
  have hcc := cut_cases 2048 (b.take 2048)
  have hltk : (b.take 2048).length = min 2048 n := by rw [List.length_take, HN.out]
  rw [← hn]
  clear hs hk hlen hn
  have HPar : Hid (∀ (X : World) (s : ByteArray), Below u.heap.size u X → s.size ≤ 2048 → Calls Tryz.prog 42 #[.string s] X fun e w' => e = .returned (.tuple #[.agg #[.string (prs s).1, .string (prs s).2.1], .int .i64 (prs s).2.2]) ∧ Below X.heap.size X w') := fun X s hX hz => parse_any s X (by omega) (hM.below hX)
  have HTell : Hid (∀ s : ByteArray, s.size ≤ 2048 → Calls Tryz.prog 29 #[.string s, .pointer (some ⟨u.heap.size, 0, none⟩)] W fun e w' => e = .returned (.int .i64 (rqSt s)) ∧ PI u (.cells #[.string (rqP s).method, .string (rqP s).target, .int .i64 (rqP s).minor, .slice none 0 0, .slice none 0 0] 26) w' ∧ W.heap.size ≤ w'.heap.size) := fun s hz => head1_any s _ _ _ _ _ u W hP (by omega) hM
  have hr0 : roomL b 0 = b.take 2048 := rfl
  have HP : Hid (PI u (.cells #[Y0, Y1, Y2, Y3, Y4] 26) W) := hP
  clear hP hM
  rcases hcc with ⟨i, hc, hl, _⟩ | ⟨er, hc⟩
  · have hv := hcutV_hit (b := b) (at_ := 0) (by rw [hr0]; exact hc)
    rw [hr0] at hv
    have hz : Hid ((tx ((b.take 2048).take i)).size ≤ 2048) := by rw [Hid, tx_size, List.length_take]; omega
    have hfl : firstL b = tx ((b.take 2048).take i) := firstL_hit hc
    rw [hltk] at hl
    by_cases hst : rqSt (tx ((b.take 2048).take i)) = 0
    · have HH : Hid (headL rqSt b = plusH [] (i + 2) (fldL (fullB b) 40 (roomL b (i + 2)))) := headL_hit hc hst
      have HT2 : Hid (Calls Tryz.prog 29 #[.string (tx ((b.take 2048).take i)), .pointer (some ⟨u.heap.size, 0, none⟩)] W fun e w' => e = .returned (.int .i64 0) ∧ PI u (.cells #[.string (rqP (tx ((b.take 2048).take i))).method, .string (rqP (tx ((b.take 2048).take i))).target, .int .i64 (rqP (tx ((b.take 2048).take i))).minor, .slice none 0 0, .slice none 0 0] 26) w' ∧ W.heap.size ≤ w'.heap.size) := by
        have k := HTell.out _ hz.out
        rw [hst] at k
        exact k
      have HC2 : Hid (Calls Tryz.prog 64 #[.slice a n c, .int .i64 0] W fun e w' => e = .returned (.tuple #[.string (tx ((b.take 2048).take i)), .int .i64 ((i : Int) + 2), .int .i64 0]) ∧ w' = W) := by
        have k := HCUT.out W 0 HP.out.below (Nat.zero_le _)
        rw [hv] at k
        exact k
      rw [hfl]
      have hii : i ≤ 2046 := by omega
      have hii2 : ¬ ((i : Int) + 2) = 0 := by omega
      have hii3 : (((i : Int) + 2) == 0) = false := by simpa using hii2
      generalize tx ((b.take 2048).take i) = first at *
      generalize hR : headL rqSt b = R at *
      have HR : Hid (headL rqSt b = R) := hR
      clear hR hst hc hv HTell hltk hr0 hfl
      go_enter Tryz.func28, Tryz.ntmps28
      go_wp2_with fail
      refine HC2.out.mono ?_
      rintro e w1 ⟨rfl, rfl⟩
      go_wp2_with fail
      refine HT2.out.mono ?_
      rintro e w2 ⟨rfl, P2, hsz2⟩
      have HP2 : Hid (PI u (.cells #[.string (rqP first).method, .string (rqP first).target, .int .i64 (rqP first).minor, .slice none 0 0, .slice none 0 0] 26) w2) := P2
      clear HC2 HT2 P2 HP
      have hst0 : i + 2 ≤ min 2048 n := by omega
      go_wp2_with fail
      go_loopw [8, 11] (fun va vf wr => ∃ (at_ : Nat) (acc : Fs) (fa : Option Addr) (fc : Nat), at_ ≤ min 2048 n ∧ 0 < at_ ∧ acc.length ≤ 40 ∧ va = .int .i64 at_ ∧ vf = .slice fa acc.length fc ∧ OwnF w2.heap.size wr vf acc ∧ Hid (R = plusH acc at_ (fldL (fullB b) (40 - acc.length) (roomL b at_))) ∧ Below w2.heap.size w2 wr) (fun va _ _ => n - (intOf va).toNat)
      case atStart => exact ⟨i + 2, [], none, 0, hst0, by omega, Nat.zero_le _, by go_num, rfl, OwnF.nil _ _, HH, Below.refl _ _⟩
      case round =>
        obtain ⟨at_, acc, fa, fc, hat, hat0, hacc, rfl, rfl, hO, hR, hB⟩ := hrel
        have hPw := HP2.out.next hB
        have HCr := HCUT.out wr at_ hPw.below hat
        have hroom : (roomL b at_).length = min 2048 n - at_ := by unfold roomL; rw [List.length_drop, List.length_take, HN.out]
        rcases cut_cases 2048 (roomL b at_) with ⟨j, hc, hl, _⟩ | ⟨er, hc⟩
        · rw [hcutV_hit hc] at HCr
          rw [hroom] at hl
          have HC3 : Hid (Calls Tryz.prog 64 #[.slice a n c, .int .i64 (at_ : Nat)] wr fun e w' => e = .returned (.tuple #[.string (tx ((roomL b at_).take j)), .int .i64 ((j : Int) + 2), .int .i64 0]) ∧ w' = wr) := HCr
          have hjj : j ≤ 2046 := by omega
          have hj2 : ¬ ((j : Int) + 2) = 0 := by omega
          have hj3 : (((j : Int) + 2) == 0) = false := by simpa using hj2
          by_cases h0 : j = 0
          · subst h0
            have HE : Hid (R = (acc, at_ + 2, 0)) := by
              rw [Hid, hR.out, fldL_end hc]
              unfold plusH
              rw [if_neg (by decide), List.append_nil]
            have HC4 : Hid (Calls Tryz.prog 64 #[.slice a n c, .int .i64 (at_ : Nat)] wr fun e w' => e = .returned (.tuple #[.string ⟨#[]⟩, .int .i64 2, .int .i64 0]) ∧ w' = wr) := HC3.out
            clear hR hc HCr HC3 hroom hj2 hj3
            have HO2 : Hid (OwnF w2.heap.size wr (.slice fa acc.length fc) acc) := hO
            have HPw : Hid _ := hPw
            clear hO hPw
            go_wp2_with fail
            refine HC4.out.mono ?_
            rintro e w3 ⟨rfl, rfl⟩
            go_wp2
            refine bodyPost_ret (v := .tuple #[.slice fa acc.length fc, .int .i64 ((at_ : Int) + 2), .int .i64 0]) (by simp [results, Tryz.results28, go_sem]) rfl ?_
            rw [HE.out]
            exact ⟨fa, fc, rfl, HO2.out.mono hsz2, _, HPw.out, fun _ => rfl⟩
          · have hs2 : (tx ((roomL b at_).take j)).size = j := by rw [tx_size, List.length_take, hroom]; omega
            have hsz : Hid ((tx ((roomL b at_).take j)).size ≤ 2048) := by rw [Hid, hs2]; omega
            have hne : (tx ((roomL b at_).take j)).toList.isEmpty = false := isEmpty_of (by rw [hs2]; exact h0)
            have HPr : Hid (Calls Tryz.prog 42 #[.string (tx ((roomL b at_).take j))] wr fun e w' => e = .returned (.tuple #[.agg #[.string (prs (tx ((roomL b at_).take j))).1, .string (prs (tx ((roomL b at_).take j))).2.1], .int .i64 (prs (tx ((roomL b at_).take j))).2.2]) ∧ Below wr.heap.size wr w') := HPar.out wr _ hPw.below hsz.out
            cases hf : fldOk ((roomL b at_).take j)
            · have HE : Hid (R = ([], 0, 400)) := by rw [Hid, hR.out, fldL_bad hc h0 hf, plusH_err]
              have hpe : ((prs (tx ((roomL b at_).take j))).2.2 != 0) = true := by
                unfold fldOk at hf
                simpa using hf
              clear hR hc HCr hroom hs2 hsz hf
              generalize prs (tx ((roomL b at_).take j)) = pr at *
              generalize tx ((roomL b at_).take j) = s at *
              obtain ⟨p1, p2, p3⟩ := pr
              simp only at HPr hpe
              have HPw : Hid _ := hPw
              clear hO hPw
              go_wp2_with fail
              refine HC3.out.mono ?_
              rintro e w3 ⟨rfl, rfl⟩
              go_wp2_with fail
              refine HPr.out.mono ?_
              rintro e w4 ⟨rfl, B4⟩
              have P4 := (HPw.out.next B4).next ((Below.refl _ _).alloc (Nat.le_refl _) (.cells #[.string p1, .string p2] 53))
              have HP4 : Hid _ := P4
              clear P4 HPw B4
              go_wp2
              refine bodyPost_ret (v := .tuple #[.slice none 0 0, .int .i64 0, .int .i64 400]) (by simp [results, Tryz.results28, go_sem]) rfl ?_
              rw [HE.out]
              exact ⟨none, 0, rfl, OwnF.nil _ _, _, HP4.out, fun _ => rfl⟩
            · have hpe : (prs (tx ((roomL b at_).take j))).2.2 = 0 := by
                unfold fldOk at hf
                simpa using hf
              have hfo : fOf ((roomL b at_).take j) = ((prs (tx ((roomL b at_).take j))).1, (prs (tx ((roomL b at_).take j))).2.1) := rfl
              by_cases h40 : acc.length = 40
              · have HE : Hid (R = ([], 0, 431)) := by rw [Hid, hR.out, h40, fldL_many hc h0 hf, plusH_err]
                have hAL : ((acc.length : Nat) : Int) = 40 := by omega
                clear hR hc HCr hroom hs2 hsz hf hfo
                generalize prs (tx ((roomL b at_).take j)) = pr at *
                generalize tx ((roomL b at_).take j) = s at *
                obtain ⟨p1, p2, p3⟩ := pr
                simp only at HPr hpe
                subst hpe
                have HPw : Hid _ := hPw
                clear hO hPw
                rw [h40]
                go_wp2_with fail
                refine HC3.out.mono ?_
                rintro e w3 ⟨rfl, rfl⟩
                go_wp2_with fail
                refine HPr.out.mono ?_
                rintro e w4 ⟨rfl, B4⟩
                have P4 := (HPw.out.next B4).next ((Below.refl _ _).alloc (Nat.le_refl _) (.cells #[.string p1, .string p2] 53))
                have HP4 : Hid _ := P4
                clear P4 HPw B4
                go_wp2
                refine bodyPost_ret (v := .tuple #[.slice none 0 0, .int .i64 0, .int .i64 431]) (by simp [results, Tryz.results28, go_sem]) rfl ?_
                rw [HE.out]
                exact ⟨none, 0, rfl, OwnF.nil _ _, _, HP4.out, fun _ => rfl⟩
              · have HE : Hid (R = plusH (acc ++ [((prs (tx ((roomL b at_).take j))).1, (prs (tx ((roomL b at_).take j))).2.1)]) (at_ + (j + 2)) (fldL (fullB b) (40 - (acc.length + 1)) (roomL b (at_ + (j + 2))))) := by
                  rw [Hid, hR.out]
                  obtain ⟨r, hr⟩ : ∃ r, 40 - acc.length = r + 1 := ⟨40 - acc.length - 1, by omega⟩
                  rw [hr, fldL_next hc h0 hf, plusH_plusH _ _ _ _ _ (by omega), hfo]
                  have e1 : 40 - (acc.length + 1) = r := by omega
                  have e2 : (roomL b at_).drop (j + 2) = roomL b (at_ + (j + 2)) := by unfold roomL; rw [List.drop_drop]
                  rw [e1, e2]
                have hAL : ¬ ((acc.length : Nat) : Int) = 40 := by omega
                have hAL2 : (((acc.length : Nat) : Int) == 40) = false := by simpa using hAL
                clear hR hc HCr hroom hs2 hsz hf hfo
                generalize prs (tx ((roomL b at_).take j)) = pr at *
                generalize tx ((roomL b at_).take j) = s at *
                obtain ⟨p1, p2, p3⟩ := pr
                simp only at HPr hpe HE
                subst hpe
                have HO2 : Hid (OwnF w2.heap.size wr (.slice fa acc.length fc) acc) := hO
                have HAC : Hid (acc.length + 1 ≤ 40) := by rw [Hid]; omega
                have HHB : Hid _ := hB
                clear hO hPw hB hacc h40
                generalize hal : acc.length = al at *
                have HAL3 : Hid (acc.length = al) := hal
                clear hal
                go_wp2_with fail
                refine HC3.out.mono ?_
                rintro e w3 ⟨rfl, rfl⟩
                go_wp2_with fail
                refine HPr.out.mono ?_
                rintro e w4 ⟨rfl, B4⟩
                have D4 := B4.alloc B4.size (.cells #[.string p1, .string p2] 53)
                have g4 : (w4.alloc (.cells #[.string p1, .string p2] 53)).heap[w4.heap.size]? = some (.cells #[.string p1, .string p2] 53) := tblk_new _ _
                have c0 : (w4.alloc (.cells #[.string p1, .string p2] 53)).cell? ⟨w4.heap.size, 0, none⟩ = some (.string p1) := tblk_cell g4 rfl
                have c1 : (w4.alloc (.cells #[.string p1, .string p2] 53)).cell? ⟨w4.heap.size, 1, none⟩ = some (.string p2) := tblk_cell g4 rfl
                have own4 := HO2.out.keep D4
                have B5 := HHB.out.trans (D4.mono HHB.out.size)
                clear g4 B4 D4 HPr HC3
                have own5 := own4.keep ((Below.refl _ _).alloc (Nat.le_refl _) (.cells #[.string p1, .string p2] 53))
                obtain ⟨v6, w6, r6, own6, B6⟩ := ownF_append own5 (fds_new (w4.alloc (.cells #[.string p1, .string p2] 53)) p1 p2) (by have := HAC.out; have := HAL3.out; simp; omega) (Nat.le_trans B5.size (by simp))
                have e5 : (w4.alloc (.cells #[.string p1, .string p2] 53)).heap.size = w4.heap.size + 1 := by simp
                have B7 : Below w2.heap.size w2 w6 := (B5.alloc B5.size _).trans B6
                obtain ⟨a6, c6, rfl, _⟩ := own6.form
                have HO6 : Hid (OwnF w2.heap.size w6 (.slice a6 (acc ++ [(p1, p2)]).length c6) (acc ++ [(p1, p2)])) := own6
                have HL : Hid ((acc ++ [(p1, p2)]).length = al + 1) := by rw [Hid, List.length_append, HAL3.out]; rfl
                obtain ⟨L, hL⟩ : ∃ L, L = (acc ++ [(p1, p2)]).length := ⟨_, rfl⟩
                have HR6 : Hid ((Builtin.append_ #[24, 24] 24 #[.slice fa al fc, .slice (some ⟨w4.heap.size + 1, 0, none⟩) 1 1]).run Tryz.prog ((w4.alloc (.cells #[.string p1, .string p2] 53)).alloc (.cells #[.string p1, .string p2] 53)) = .ok (.slice a6 L c6) w6) := by rw [Hid, hL, ← e5]; exact r6
                have HLL : Hid (L = (acc ++ [(p1, p2)]).length) := hL
                have HB7 : Hid _ := B7
                clear own4 own5 own6 B5 B6 B7 r6 hL e5
                go_wp2_with (at_builtin; refine wpList_append_run2 rfl _ _ 24 24 rfl _ _ _ w6 rfl rfl HR6.out ?_)
                go_roundw
                case rel => exact ⟨at_ + (j + 2), acc ++ [(p1, p2)], a6, c6, by omega, by omega, by have := HL.out; have := HAC.out; have := HAL3.out; omega, by go_num, by rw [HLL.out], (by rw [HLL.out]; exact HO6.out), (by rw [HL.out]; exact HE), HB7.out⟩
                case measure => simp [intOf]; omega
        · rw [hcutV_miss hc] at HCr
          have HE : Hid (R = ([], 0, hst (fullB b) er)) := by rw [Hid, hR.out, fldL_miss hc, plusH_err]
          have HC3 : Hid (Calls Tryz.prog 64 #[.slice a n c, .int .i64 (at_ : Nat)] wr fun e w' => e = .returned (.tuple #[.string ⟨#[]⟩, .int .i64 0, .int .i64 (hst (fullB b) er)]) ∧ w' = wr) := HCr
          have HPw : Hid _ := hPw
          clear hR hc HCr hroom hO hPw
          generalize hst (fullB b) er = st at *
          go_wp2_with fail
          refine HC3.out.mono ?_
          rintro e w3 ⟨rfl, rfl⟩
          go_wp2
          refine bodyPost_ret (v := .tuple #[.slice none 0 0, .int .i64 0, .int .i64 st]) (by simp [results, Tryz.results28, go_sem]) rfl ?_
          rw [HE.out]
          exact ⟨none, 0, rfl, OwnF.nil _ _, _, HPw.out, fun _ => rfl⟩
    · have HH : Hid (headL rqSt b = ([], 0, rqSt (tx ((b.take 2048).take i)))) := headL_bad hc hst
      have HT2 : Hid (Calls Tryz.prog 29 #[.string (tx ((b.take 2048).take i)), .pointer (some ⟨u.heap.size, 0, none⟩)] W fun e w' => e = .returned (.int .i64 (rqSt (tx ((b.take 2048).take i)))) ∧ PI u (.cells #[.string (rqP (tx ((b.take 2048).take i))).method, .string (rqP (tx ((b.take 2048).take i))).target, .int .i64 (rqP (tx ((b.take 2048).take i))).minor, .slice none 0 0, .slice none 0 0] 26) w' ∧ W.heap.size ≤ w'.heap.size) := HTell.out _ hz.out
      have HC2 : Hid (Calls Tryz.prog 64 #[.slice a n c, .int .i64 0] W fun e w' => e = .returned (.tuple #[.string (tx ((b.take 2048).take i)), .int .i64 ((i : Int) + 2), .int .i64 0]) ∧ w' = W) := by
        have k := HCUT.out W 0 HP.out.below (Nat.zero_le _)
        rw [hv] at k
        exact k
      have hii : i ≤ 2046 := by omega
      have hii2 : ¬ ((i : Int) + 2) = 0 := by omega
      have hii3 : (((i : Int) + 2) == 0) = false := by simpa using hii2
      generalize tx ((b.take 2048).take i) = first at *
      have hst2 : (rqSt first != 0) = true := by simpa using hst
      generalize headL rqSt b = R at *
      generalize rqSt first = stt at *
      clear hst hc hv HTell hltk hr0 hfl
      go_enter Tryz.func28, Tryz.ntmps28
      go_wp2_with fail
      refine HC2.out.mono ?_
      rintro e w1 ⟨rfl, rfl⟩
      go_wp2_with fail
      refine HT2.out.mono ?_
      rintro e w2 ⟨rfl, P2, hsz2⟩
      have HP2 : Hid _ := P2
      clear P2
      go_wp2
      refine bodyPost_ret (v := .tuple #[.slice none 0 0, .int .i64 0, .int .i64 stt]) (by simp [results, Tryz.results28, go_sem]) rfl ?_
      rw [HH.out]
      exact ⟨none, 0, rfl, OwnF.nil _ _, _, HP2.out, fun k => absurd rfl k⟩
  · have hv := hcutV_miss (b := b) (at_ := 0) (by rw [hr0]; exact hc)
    have HH : Hid (headL rqSt b = ([], 0, hst (fullB b) er)) := headL_miss hc
    have HC2 : Hid (Calls Tryz.prog 64 #[.slice a n c, .int .i64 0] W fun e w' => e = .returned (.tuple #[.string ⟨#[]⟩, .int .i64 0, .int .i64 (hst (fullB b) er)]) ∧ w' = W) := by
      have k := HCUT.out W 0 HP.out.below (Nat.zero_le _)
      rw [hv] at k
      exact k
    generalize headL rqSt b = R at *
    generalize hst (fullB b) er = stt at *
    clear hc hv HTell hltk hr0
    go_enter Tryz.func28, Tryz.ntmps28
    go_wp2_with fail
    refine HC2.out.mono ?_
    rintro e w1 ⟨rfl, rfl⟩
    go_wp2
    refine bodyPost_ret (v := .tuple #[.slice none 0 0, .int .i64 0, .int .i64 stt]) (by simp [results, Tryz.results28, go_sem]) rfl ?_
    rw [HH.out]
    exact ⟨none, 0, rfl, OwnF.nil _ _, _, HP.out, fun k => absurd rfl k⟩
end Go.Proofs.YthbjdbookiejeabGreatDoor
