/- Texts that the proof leans on, one behind the other: FrQ HtP HtQ Two -/
import Derived.Test.YtajfjjmabncldaaGreatDoorSk4
import Derived.Test.YtajfjjmabncldaaGreatDoorSk2
import Derived.Test.YtajfjjmabncldaaGreatDoorSk8
/- Package frame: Closes. -/
namespace Go.Proofs.YtajfjjmabncldaaGreatDoor
open Go.ChangeShapes Go.WideShapes Go.ChangeAt Go.RowKit
set_option linter.unusedVariables false

set_option maxHeartbeats 1000000 in
theorem closes_any (fs : Fs) (a : Option Addr) (c : Nat) (minor : Int) (w : World) (hf : Fds w.heap.size w (.slice a fs.length c) fs) (hb : FBd 1048576 fs) (hl : fs.length ≤ 1024) (hM : MaxL w) :
    Calls Tryz.prog 35 #[.slice a fs.length c, .int .i64 minor] w fun e w' => e = .returned (.bool (closesF fs minor)) ∧ Below w.heap.size w w' := by
  have H1 : Hid (Calls Tryz.prog 73 #[.slice a fs.length c, .string ⟨#[67, 111, 110, 110, 101, 99, 116, 105, 111, 110]⟩, .string ⟨#[99, 108, 111, 115, 101]⟩] w fun e w' => e = .returned (.bool (hasF fs tCo tClose)) ∧ Below w.heap.size w w') := has_any fs a c tCo tClose w hf hb (by decide) (by decide) hl hM
  have H2 : Hid (∀ W, Below w.heap.size w W → Calls Tryz.prog 73 #[.slice a fs.length c, .string ⟨#[67, 111, 110, 110, 101, 99, 116, 105, 111, 110]⟩, .string ⟨#[107, 101, 101, 112, 45, 97, 108, 105, 118, 101]⟩] W fun e w' => e = .returned (.bool (hasF fs tCo tKeep)) ∧ Below W.heap.size W w') := fun W b => has_any fs a c tCo tKeep W (hf.over b) hb (by decide) (by decide) hl (hM.below b)
  unfold closesF
  clear hf hb hl hM
  generalize hasF fs tCo tClose = p at *
  generalize hasF fs tCo tKeep = q at *
  cases p
  · by_cases hm : minor = 0
    · subst hm
      go_enter Tryz.func35, Tryz.ntmps35
      go_wp2_with fail
      refine H1.out.mono ?_
      rintro e w1 ⟨rfl, B1⟩
      go_wp2_with fail
      refine (H2.out _ B1).mono ?_
      rintro e w2 ⟨rfl, B2⟩
      go_wp2
      go_ret
      exact ⟨ret_bool (by simp), B1.trans (B2.mono B1.size)⟩
    · have hm2 : (minor == 0) = false := by simpa using hm
      rw [decide_eq_false hm]
      clear hm
      go_enter Tryz.func35, Tryz.ntmps35
      go_wp2_with fail
      refine H1.out.mono ?_
      rintro e w1 ⟨rfl, B1⟩
      go_wp2
      go_ret
      exact ⟨rfl, B1⟩
  · go_enter Tryz.func35, Tryz.ntmps35
    go_wp2_with fail
    refine H1.out.mono ?_
    rintro e w1 ⟨rfl, B1⟩
    go_wp2
    go_ret
    exact ⟨rfl, B1⟩
end Go.Proofs.YtajfjjmabncldaaGreatDoor

/- Package http: the lines of a response's head. -/
namespace Go.Proofs.YtajfjjmabncldaaGreatDoor
open Go.RowKit
set_option linter.unusedVariables false

set_option maxRecDepth 100000 in
set_option maxHeartbeats 2000000 in
theorem resp1_any (s : ByteArray) (Y0 Y1 Y2 Y3 Y4 : Value) (u W : World) (hP : PI u (.cells #[Y0, Y1, Y2, Y3, Y4] 40) W) (hs : s.size < 4294967281) (hM : MaxL u) :
    Calls Tryz.prog 112 #[.string s, .pointer (some ⟨u.heap.size, 0, none⟩)] W fun e w' => e = .returned (.int .i64 (stSt s)) ∧ PI u (.cells #[.int .i64 (statP s).code, .string (statP s).reason, .int .i64 (statP s).minor, .slice none 0 0, .slice none 0 0] 40) w' ∧ W.heap.size ≤ w'.heap.size := by
  have HL : Hid (Calls Tryz.prog 113 #[.string s] W fun e w' => e = .returned (.tuple #[.agg #[.int .i64 (statP s).code, .string (statP s).reason, .int .i64 (statP s).minor, .slice none 0 0, .slice none 0 0], .bool (statP s).ok]) ∧ Below W.heap.size W w') := status_any s W hs (hM.below hP.below)
  have HP : Hid _ := hP
  clear hs hM hP
  have hst : stSt s = if (statP s).ok = true then 0 else 400 := rfl
  generalize stSt s = st at *
  generalize (statP s).code = m at *
  generalize (statP s).reason = t at *
  generalize (statP s).minor = mi at *
  generalize (statP s).ok = ok at *
  cases ok
  · rw [if_neg (by decide)] at hst
    subst hst
    go_enter Tryz.func112, Tryz.ntmps112
    go_wp2_with fail
    refine HL.out.mono ?_
    rintro e w1 ⟨rfl, B1⟩
    have P1 := HP.out.next B1
    have hg2 := P1.own
    have HW := five_cells hg2 (.int .i64 m) (.string t) (.int .i64 mi) (.slice none 0 0) (.slice none 0 0)
    have HB := five_below (.int .i64 m) (.string t) (.int .i64 mi) (.slice none 0 0) (.slice none 0 0) P1.below (Nat.le_refl _)
    have a0 := tblk_cell (i := 0) hg2 rfl
    have z0 := lblk_z (i := 0) hg2
    have a1 := tblk_cell (i := 1) hg2 rfl
    have z1 := lblk_z (i := 1) hg2
    have a2 := tblk_cell (i := 2) hg2 rfl
    have z2 := lblk_z (i := 2) hg2
    have a3 := tblk_cell (i := 3) hg2 rfl
    have z3 := lblk_z (i := 3) hg2
    have a4 := tblk_cell (i := 4) hg2 rfl
    have z4 := lblk_z (i := 4) hg2
    have hsz : Hid (W.heap.size ≤ (five w1 u.heap.size (.int .i64 m) (.string t) (.int .i64 mi) (.slice none 0 0) (.slice none 0 0)).heap.size) := by
      rw [Hid]; unfold five; simp; exact B1.size
    have HX : Hid (PI u (.cells #[.int .i64 m, .string t, .int .i64 mi, .slice none 0 0, .slice none 0 0] 40) (five w1 u.heap.size (.int .i64 m) (.string t) (.int .i64 mi) (.slice none 0 0) (.slice none 0 0))) := ⟨HB, HW⟩
    unfold five at HX hsz
    clear HB HW hg2 P1 B1 HL HP
    go_wp2
    go_ret
    exact ⟨rfl, HX.out, hsz.out⟩
  · rw [if_pos rfl] at hst
    subst hst
    go_enter Tryz.func112, Tryz.ntmps112
    go_wp2_with fail
    refine HL.out.mono ?_
    rintro e w1 ⟨rfl, B1⟩
    have P1 := HP.out.next B1
    have hg2 := P1.own
    have HW := five_cells hg2 (.int .i64 m) (.string t) (.int .i64 mi) (.slice none 0 0) (.slice none 0 0)
    have HB := five_below (.int .i64 m) (.string t) (.int .i64 mi) (.slice none 0 0) (.slice none 0 0) P1.below (Nat.le_refl _)
    have a0 := tblk_cell (i := 0) hg2 rfl
    have z0 := lblk_z (i := 0) hg2
    have a1 := tblk_cell (i := 1) hg2 rfl
    have z1 := lblk_z (i := 1) hg2
    have a2 := tblk_cell (i := 2) hg2 rfl
    have z2 := lblk_z (i := 2) hg2
    have a3 := tblk_cell (i := 3) hg2 rfl
    have z3 := lblk_z (i := 3) hg2
    have a4 := tblk_cell (i := 4) hg2 rfl
    have z4 := lblk_z (i := 4) hg2
    have hsz : Hid (W.heap.size ≤ (five w1 u.heap.size (.int .i64 m) (.string t) (.int .i64 mi) (.slice none 0 0) (.slice none 0 0)).heap.size) := by
      rw [Hid]; unfold five; simp; exact B1.size
    have HX : Hid (PI u (.cells #[.int .i64 m, .string t, .int .i64 mi, .slice none 0 0, .slice none 0 0] 40) (five w1 u.heap.size (.int .i64 m) (.string t) (.int .i64 mi) (.slice none 0 0) (.slice none 0 0))) := ⟨HB, HW⟩
    unfold five at HX hsz
    clear HB HW hg2 P1 B1 HL HP
    go_wp2
    go_ret
    exact ⟨rfl, HX.out, hsz.out⟩

set_option maxRecDepth 100000 in
set_option maxHeartbeats 4000000 in
theorem readB_any (b : List UInt8) (kb c : Nat) (a : Option Addr) (Y0 Y1 Y2 Y3 Y4 : Value) (u W : World) (hP : PI u (.cells #[Y0, Y1, Y2, Y3, Y4] 40) W) (hs : Src u kb (.slice a b.length c) b) (hk : 0 < b.length → kb < u.heap.size) (hM : MaxL u) :
    Calls Tryz.prog 102 #[.slice a b.length c, .func (.func 112) #[] #[.pointer (some ⟨u.heap.size, 0, none⟩)]] W fun e w' => ∃ fa fc, e = .returned (.tuple #[.slice fa (headL stSt b).1.length fc, .int .i64 ((headL stSt b).2.1 : Nat), .int .i64 (headL stSt b).2.2]) ∧ OwnF W.heap.size w' (.slice fa (headL stSt b).1.length fc) (headL stSt b).1 ∧
      ∃ o, PI u o w' ∧ (¬ (headL stSt b).2.1 = 0 → o = .cells #[.int .i64 (statP (firstL b)).code, .string (statP (firstL b)).reason, .int .i64 (statP (firstL b)).minor, .slice none 0 0, .slice none 0 0] 40) := by
  have hlen := hs.len
  obtain ⟨n, hn⟩ : ∃ n, n = b.length := ⟨_, rfl⟩
  have HN : Hid (n = b.length) := hn
  have HCUT : Hid (∀ (X : World) (at_ : Nat), Below u.heap.size u X → at_ ≤ min 2048 n → Calls Tryz.prog 135 #[.slice a n c, .int .i64 (at_ : Nat)] X fun e w' => e = .returned (hcutV b at_) ∧ w' = X) := fun X at_ hX ha => by
    have k := hcut_any b kb c a at_ X (hs.keep hk hX) (by omega)
    rw [← hn] at k
    exact k
  have HOK : Hid (FlOk 40 (min 2048 b.length) (headL stSt b)) := headL_ok _ _
  have hcc := cut_cases 2048 (b.take 2048)
  have hltk : (b.take 2048).length = min 2048 n := by rw [List.length_take, HN.out]
  rw [← hn]
  clear hs hk hlen hn
  have HPar : Hid (∀ (X : World) (s : ByteArray), Below u.heap.size u X → s.size ≤ 2048 → Calls Tryz.prog 136 #[.string s] X fun e w' => e = .returned (.tuple #[.agg #[.string (prs s).1, .string (prs s).2.1], .int .i64 (prs s).2.2]) ∧ Below X.heap.size X w') := fun X s hX hz => parse_any s X (by omega) (hM.below hX)
  have HTell : Hid (∀ s : ByteArray, s.size ≤ 2048 → Calls Tryz.prog 112 #[.string s, .pointer (some ⟨u.heap.size, 0, none⟩)] W fun e w' => e = .returned (.int .i64 (stSt s)) ∧ PI u (.cells #[.int .i64 (statP s).code, .string (statP s).reason, .int .i64 (statP s).minor, .slice none 0 0, .slice none 0 0] 40) w' ∧ W.heap.size ≤ w'.heap.size) := fun s hz => resp1_any s _ _ _ _ _ u W hP (by omega) hM
  have hr0 : roomL b 0 = b.take 2048 := rfl
  have HP : Hid (PI u (.cells #[Y0, Y1, Y2, Y3, Y4] 40) W) := hP
  clear hP hM
  rcases hcc with ⟨i, hc, hl, _⟩ | ⟨er, hc⟩
  · have hv := hcutV_hit (b := b) (at_ := 0) (by rw [hr0]; exact hc)
    rw [hr0] at hv
    have hz : Hid ((tx ((b.take 2048).take i)).size ≤ 2048) := by rw [Hid, tx_size, List.length_take]; omega
    have hfl : firstL b = tx ((b.take 2048).take i) := firstL_hit hc
    rw [hltk] at hl
    by_cases hst : stSt (tx ((b.take 2048).take i)) = 0
    · have HH : Hid (headL stSt b = plusH [] (i + 2) (fldL (fullB b) 40 (roomL b (i + 2)))) := headL_hit hc hst
      have HT2 : Hid (Calls Tryz.prog 112 #[.string (tx ((b.take 2048).take i)), .pointer (some ⟨u.heap.size, 0, none⟩)] W fun e w' => e = .returned (.int .i64 0) ∧ PI u (.cells #[.int .i64 (statP (tx ((b.take 2048).take i))).code, .string (statP (tx ((b.take 2048).take i))).reason, .int .i64 (statP (tx ((b.take 2048).take i))).minor, .slice none 0 0, .slice none 0 0] 40) w' ∧ W.heap.size ≤ w'.heap.size) := by
        have k := HTell.out _ hz.out
        rw [hst] at k
        exact k
      have HC2 : Hid (Calls Tryz.prog 135 #[.slice a n c, .int .i64 0] W fun e w' => e = .returned (.tuple #[.string (tx ((b.take 2048).take i)), .int .i64 ((i : Int) + 2), .int .i64 0]) ∧ w' = W) := by
        have k := HCUT.out W 0 HP.out.below (Nat.zero_le _)
        rw [hv] at k
        exact k
      rw [hfl]
      have hii : i ≤ 2046 := by omega
      have hii2 : ¬ ((i : Int) + 2) = 0 := by omega
      have hii3 : (((i : Int) + 2) == 0) = false := by simpa using hii2
      generalize tx ((b.take 2048).take i) = first at *
      generalize hR : headL stSt b = R at *
      have HR : Hid (headL stSt b = R) := hR
      clear hR hst hc hv HTell hltk hr0 hfl
      go_enter Tryz.func102, Tryz.ntmps102
      go_wp2_with fail
      refine HC2.out.mono ?_
      rintro e w1 ⟨rfl, rfl⟩
      go_wp2_with fail
      refine HT2.out.mono ?_
      rintro e w2 ⟨rfl, P2, hsz2⟩
      have HP2 : Hid (PI u (.cells #[.int .i64 (statP first).code, .string (statP first).reason, .int .i64 (statP first).minor, .slice none 0 0, .slice none 0 0] 40) w2) := P2
      clear HC2 HT2 P2 HP
      have hst0 : i + 2 ≤ min 2048 n := by omega
      go_wp2_with fail
      go_loopw [8, 11] (fun va vf wr => ∃ (at_ : Nat) (acc : Fs) (fa : Option Addr) (fc : Nat), at_ ≤ min 2048 n ∧ 0 < at_ ∧ acc.length ≤ 40 ∧ va = .int .i64 at_ ∧ vf = .slice fa acc.length fc ∧ OwnF w2.heap.size wr vf acc ∧ Hid (R = plusH acc at_ (fldL (fullB b) (40 - acc.length) (roomL b at_))) ∧ Below w2.heap.size w2 wr) (fun va _ _ => n - (intOf va).toNat)
      case atStart => exact ⟨i + 2, [], none, 0, hst0, by omega, Nat.zero_le _, by go_num, rfl, OwnF.nil _ _, HH, Below.refl _ _⟩
      case round =>
        obtain ⟨at_, acc, fa, fc, hat, hat0, hacc, rfl, rfl, hO, hR, hB⟩ := hrel
        have hPw := HP2.out.next hB
        have HCr := HCUT.out wr at_ hPw.below hat
        have hroom : (roomL b at_).length = min 2048 n - at_ := by unfold roomL; rw [List.length_drop, List.length_take, HN.out]
        rcases cut_cases 2048 (roomL b at_) with ⟨j, hc, hl, _⟩ | ⟨er, hc⟩
        · rw [hcutV_hit hc] at HCr
          rw [hroom] at hl
          have HC3 : Hid (Calls Tryz.prog 135 #[.slice a n c, .int .i64 (at_ : Nat)] wr fun e w' => e = .returned (.tuple #[.string (tx ((roomL b at_).take j)), .int .i64 ((j : Int) + 2), .int .i64 0]) ∧ w' = wr) := HCr
          have hjj : j ≤ 2046 := by omega
          have hj2 : ¬ ((j : Int) + 2) = 0 := by omega
          have hj3 : (((j : Int) + 2) == 0) = false := by simpa using hj2
          by_cases h0 : j = 0
          · subst h0
            have HE : Hid (R = (acc, at_ + 2, 0)) := by
              rw [Hid, hR.out, fldL_end hc]
              unfold plusH
              rw [if_neg (by decide), List.append_nil]
            have HC4 : Hid (Calls Tryz.prog 135 #[.slice a n c, .int .i64 (at_ : Nat)] wr fun e w' => e = .returned (.tuple #[.string ⟨#[]⟩, .int .i64 2, .int .i64 0]) ∧ w' = wr) := HC3.out
            clear hR hc HCr HC3 hroom hj2 hj3
            have HO2 : Hid (OwnF w2.heap.size wr (.slice fa acc.length fc) acc) := hO
            have HPw : Hid _ := hPw
            clear hO hPw
            go_wp2_with fail
            refine HC4.out.mono ?_
            rintro e w3 ⟨rfl, rfl⟩
            go_wp2
            refine bodyPost_ret (v := .tuple #[.slice fa acc.length fc, .int .i64 ((at_ : Int) + 2), .int .i64 0]) (by simp [results, Tryz.results102, go_sem]) rfl ?_
            rw [HE.out]
            exact ⟨fa, fc, rfl, HO2.out.mono hsz2, _, HPw.out, fun _ => rfl⟩
          · have hs2 : (tx ((roomL b at_).take j)).size = j := by rw [tx_size, List.length_take, hroom]; omega
            have hsz : Hid ((tx ((roomL b at_).take j)).size ≤ 2048) := by rw [Hid, hs2]; omega
            have hne : (tx ((roomL b at_).take j)).toList.isEmpty = false := isEmpty_of (by rw [hs2]; exact h0)
            have HPr : Hid (Calls Tryz.prog 136 #[.string (tx ((roomL b at_).take j))] wr fun e w' => e = .returned (.tuple #[.agg #[.string (prs (tx ((roomL b at_).take j))).1, .string (prs (tx ((roomL b at_).take j))).2.1], .int .i64 (prs (tx ((roomL b at_).take j))).2.2]) ∧ Below wr.heap.size wr w') := HPar.out wr _ hPw.below hsz.out
            cases hf : fldOk ((roomL b at_).take j)
            · have HE : Hid (R = ([], 0, 400)) := by rw [Hid, hR.out, fldL_bad hc h0 hf, plusH_err]
              have hpe : ((prs (tx ((roomL b at_).take j))).2.2 != 0) = true := by
                unfold fldOk at hf
                simpa using hf
              clear hR hc HCr hroom hs2 hsz hf
              generalize prs (tx ((roomL b at_).take j)) = pr at *
              generalize tx ((roomL b at_).take j) = s at *
              obtain ⟨p1, p2, p3⟩ := pr
              simp only at HPr hpe
              have HPw : Hid _ := hPw
              clear hO hPw
              go_wp2_with fail
              refine HC3.out.mono ?_
              rintro e w3 ⟨rfl, rfl⟩
              go_wp2_with fail
              refine HPr.out.mono ?_
              rintro e w4 ⟨rfl, B4⟩
              have P4 := (HPw.out.next B4).next ((Below.refl _ _).alloc (Nat.le_refl _) (.cells #[.string p1, .string p2] 34))
              have HP4 : Hid _ := P4
              clear P4 HPw B4
              go_wp2
              refine bodyPost_ret (v := .tuple #[.slice none 0 0, .int .i64 0, .int .i64 400]) (by simp [results, Tryz.results102, go_sem]) rfl ?_
              rw [HE.out]
              exact ⟨none, 0, rfl, OwnF.nil _ _, _, HP4.out, fun _ => rfl⟩
            · have hpe : (prs (tx ((roomL b at_).take j))).2.2 = 0 := by
                unfold fldOk at hf
                simpa using hf
              have hfo : fOf ((roomL b at_).take j) = ((prs (tx ((roomL b at_).take j))).1, (prs (tx ((roomL b at_).take j))).2.1) := rfl
              by_cases h40 : acc.length = 40
              · have HE : Hid (R = ([], 0, 431)) := by rw [Hid, hR.out, h40, fldL_many hc h0 hf, plusH_err]
                have hAL : ((acc.length : Nat) : Int) = 40 := by omega
                clear hR hc HCr hroom hs2 hsz hf hfo
                generalize prs (tx ((roomL b at_).take j)) = pr at *
                generalize tx ((roomL b at_).take j) = s at *
                obtain ⟨p1, p2, p3⟩ := pr
                simp only at HPr hpe
                subst hpe
                have HPw : Hid _ := hPw
                clear hO hPw
                rw [h40]
                go_wp2_with fail
                refine HC3.out.mono ?_
                rintro e w3 ⟨rfl, rfl⟩
                go_wp2_with fail
                refine HPr.out.mono ?_
                rintro e w4 ⟨rfl, B4⟩
                have P4 := (HPw.out.next B4).next ((Below.refl _ _).alloc (Nat.le_refl _) (.cells #[.string p1, .string p2] 34))
                have HP4 : Hid _ := P4
                clear P4 HPw B4
                go_wp2
                refine bodyPost_ret (v := .tuple #[.slice none 0 0, .int .i64 0, .int .i64 431]) (by simp [results, Tryz.results102, go_sem]) rfl ?_
                rw [HE.out]
                exact ⟨none, 0, rfl, OwnF.nil _ _, _, HP4.out, fun _ => rfl⟩
              · have HE : Hid (R = plusH (acc ++ [((prs (tx ((roomL b at_).take j))).1, (prs (tx ((roomL b at_).take j))).2.1)]) (at_ + (j + 2)) (fldL (fullB b) (40 - (acc.length + 1)) (roomL b (at_ + (j + 2))))) := by
                  rw [Hid, hR.out]
                  obtain ⟨r, hr⟩ : ∃ r, 40 - acc.length = r + 1 := ⟨40 - acc.length - 1, by omega⟩
                  rw [hr, fldL_next hc h0 hf, plusH_plusH _ _ _ _ _ (by omega), hfo]
                  have e1 : 40 - (acc.length + 1) = r := by omega
                  have e2 : (roomL b at_).drop (j + 2) = roomL b (at_ + (j + 2)) := by unfold roomL; rw [List.drop_drop]
                  rw [e1, e2]
                have hAL : ¬ ((acc.length : Nat) : Int) = 40 := by omega
                have hAL2 : (((acc.length : Nat) : Int) == 40) = false := by simpa using hAL
                clear hR hc HCr hroom hs2 hsz hf hfo
                generalize prs (tx ((roomL b at_).take j)) = pr at *
                generalize tx ((roomL b at_).take j) = s at *
                obtain ⟨p1, p2, p3⟩ := pr
                simp only at HPr hpe HE
                subst hpe
                have HO2 : Hid (OwnF w2.heap.size wr (.slice fa acc.length fc) acc) := hO
                have HAC : Hid (acc.length + 1 ≤ 40) := by rw [Hid]; omega
                have HHB : Hid _ := hB
                clear hO hPw hB hacc h40
                generalize hal : acc.length = al at *
                have HAL3 : Hid (acc.length = al) := hal
                clear hal
                go_wp2_with fail
                refine HC3.out.mono ?_
                rintro e w3 ⟨rfl, rfl⟩
                go_wp2_with fail
                refine HPr.out.mono ?_
                rintro e w4 ⟨rfl, B4⟩
                have D4 := B4.alloc B4.size (.cells #[.string p1, .string p2] 34)
                have g4 : (w4.alloc (.cells #[.string p1, .string p2] 34)).heap[w4.heap.size]? = some (.cells #[.string p1, .string p2] 34) := tblk_new _ _
                have c0 : (w4.alloc (.cells #[.string p1, .string p2] 34)).cell? ⟨w4.heap.size, 0, none⟩ = some (.string p1) := tblk_cell g4 rfl
                have c1 : (w4.alloc (.cells #[.string p1, .string p2] 34)).cell? ⟨w4.heap.size, 1, none⟩ = some (.string p2) := tblk_cell g4 rfl
                have own4 := HO2.out.keep D4
                have B5 := HHB.out.trans (D4.mono HHB.out.size)
                clear g4 B4 D4 HPr HC3
                have own5 := own4.keep ((Below.refl _ _).alloc (Nat.le_refl _) (.cells #[.string p1, .string p2] 34))
                obtain ⟨v6, w6, r6, own6, B6⟩ := ownF_append own5 (fds_new (w4.alloc (.cells #[.string p1, .string p2] 34)) p1 p2) (by have := HAC.out; have := HAL3.out; simp; omega) (Nat.le_trans B5.size (by simp))
                have e5 : (w4.alloc (.cells #[.string p1, .string p2] 34)).heap.size = w4.heap.size + 1 := by simp
                have B7 : Below w2.heap.size w2 w6 := (B5.alloc B5.size _).trans B6
                obtain ⟨a6, c6, rfl, _⟩ := own6.form
                have HO6 : Hid (OwnF w2.heap.size w6 (.slice a6 (acc ++ [(p1, p2)]).length c6) (acc ++ [(p1, p2)])) := own6
                have HL : Hid ((acc ++ [(p1, p2)]).length = al + 1) := by rw [Hid, List.length_append, HAL3.out]; rfl
                obtain ⟨L, hL⟩ : ∃ L, L = (acc ++ [(p1, p2)]).length := ⟨_, rfl⟩
                have HR6 : Hid ((Builtin.append_ #[22, 22] 22 #[.slice fa al fc, .slice (some ⟨w4.heap.size + 1, 0, none⟩) 1 1]).run Tryz.prog ((w4.alloc (.cells #[.string p1, .string p2] 34)).alloc (.cells #[.string p1, .string p2] 34)) = .ok (.slice a6 L c6) w6) := by rw [Hid, hL, ← e5]; exact r6
                have HLL : Hid (L = (acc ++ [(p1, p2)]).length) := hL
                have HB7 : Hid _ := B7
                clear own4 own5 own6 B5 B6 B7 r6 hL e5
                go_wp2_with (at_builtin; refine wpList_append_run2 rfl _ _ 22 22 rfl _ _ _ w6 rfl rfl HR6.out ?_)
                go_roundw
                case rel => exact ⟨at_ + (j + 2), acc ++ [(p1, p2)], a6, c6, by omega, by omega, by have := HL.out; have := HAC.out; have := HAL3.out; omega, by go_num, by rw [HLL.out], (by rw [HLL.out]; exact HO6.out), (by rw [HL.out]; exact HE), HB7.out⟩
                case measure => simp [intOf]; omega
        · rw [hcutV_miss hc] at HCr
          have HE : Hid (R = ([], 0, hst (fullB b) er)) := by rw [Hid, hR.out, fldL_miss hc, plusH_err]
          have HC3 : Hid (Calls Tryz.prog 135 #[.slice a n c, .int .i64 (at_ : Nat)] wr fun e w' => e = .returned (.tuple #[.string ⟨#[]⟩, .int .i64 0, .int .i64 (hst (fullB b) er)]) ∧ w' = wr) := HCr
          have HPw : Hid _ := hPw
          clear hR hc HCr hroom hO hPw
          generalize hst (fullB b) er = st at *
          go_wp2_with fail
          refine HC3.out.mono ?_
          rintro e w3 ⟨rfl, rfl⟩
          go_wp2
          refine bodyPost_ret (v := .tuple #[.slice none 0 0, .int .i64 0, .int .i64 st]) (by simp [results, Tryz.results102, go_sem]) rfl ?_
          rw [HE.out]
          exact ⟨none, 0, rfl, OwnF.nil _ _, _, HPw.out, fun _ => rfl⟩
    · have HH : Hid (headL stSt b = ([], 0, stSt (tx ((b.take 2048).take i)))) := headL_bad hc hst
      have HT2 : Hid (Calls Tryz.prog 112 #[.string (tx ((b.take 2048).take i)), .pointer (some ⟨u.heap.size, 0, none⟩)] W fun e w' => e = .returned (.int .i64 (stSt (tx ((b.take 2048).take i)))) ∧ PI u (.cells #[.int .i64 (statP (tx ((b.take 2048).take i))).code, .string (statP (tx ((b.take 2048).take i))).reason, .int .i64 (statP (tx ((b.take 2048).take i))).minor, .slice none 0 0, .slice none 0 0] 40) w' ∧ W.heap.size ≤ w'.heap.size) := HTell.out _ hz.out
      have HC2 : Hid (Calls Tryz.prog 135 #[.slice a n c, .int .i64 0] W fun e w' => e = .returned (.tuple #[.string (tx ((b.take 2048).take i)), .int .i64 ((i : Int) + 2), .int .i64 0]) ∧ w' = W) := by
        have k := HCUT.out W 0 HP.out.below (Nat.zero_le _)
        rw [hv] at k
        exact k
      have hii : i ≤ 2046 := by omega
      have hii2 : ¬ ((i : Int) + 2) = 0 := by omega
      have hii3 : (((i : Int) + 2) == 0) = false := by simpa using hii2
      generalize tx ((b.take 2048).take i) = first at *
      have hst2 : (stSt first != 0) = true := by simpa using hst
      generalize headL stSt b = R at *
      generalize stSt first = stt at *
      clear hst hc hv HTell hltk hr0 hfl
      go_enter Tryz.func102, Tryz.ntmps102
      go_wp2_with fail
      refine HC2.out.mono ?_
      rintro e w1 ⟨rfl, rfl⟩
      go_wp2_with fail
      refine HT2.out.mono ?_
      rintro e w2 ⟨rfl, P2, hsz2⟩
      have HP2 : Hid _ := P2
      clear P2
      go_wp2
      refine bodyPost_ret (v := .tuple #[.slice none 0 0, .int .i64 0, .int .i64 stt]) (by simp [results, Tryz.results102, go_sem]) rfl ?_
      rw [HH.out]
      exact ⟨none, 0, rfl, OwnF.nil _ _, _, HP2.out, fun k => absurd rfl k⟩
  · have hv := hcutV_miss (b := b) (at_ := 0) (by rw [hr0]; exact hc)
    have HH : Hid (headL stSt b = ([], 0, hst (fullB b) er)) := headL_miss hc
    have HC2 : Hid (Calls Tryz.prog 135 #[.slice a n c, .int .i64 0] W fun e w' => e = .returned (.tuple #[.string ⟨#[]⟩, .int .i64 0, .int .i64 (hst (fullB b) er)]) ∧ w' = W) := by
      have k := HCUT.out W 0 HP.out.below (Nat.zero_le _)
      rw [hv] at k
      exact k
    generalize headL stSt b = R at *
    generalize hst (fullB b) er = stt at *
    clear hc hv HTell hltk hr0
    go_enter Tryz.func102, Tryz.ntmps102
    go_wp2_with fail
    refine HC2.out.mono ?_
    rintro e w1 ⟨rfl, rfl⟩
    go_wp2
    refine bodyPost_ret (v := .tuple #[.slice none 0 0, .int .i64 0, .int .i64 stt]) (by simp [results, Tryz.results102, go_sem]) rfl ?_
    rw [HH.out]
    exact ⟨none, 0, rfl, OwnF.nil _ _, _, HP.out, fun k => absurd rfl k⟩
end Go.Proofs.YtajfjjmabncldaaGreatDoor

/- Package http: Response. -/
namespace Go.Proofs.YtajfjjmabncldaaGreatDoor
open Go.RowKit
set_option linter.unusedVariables false

/-- A response's value. -/
def rpV (r : Rp) (fa ba : Option Addr) (fc bc : Nat) : Value := .tuple #[.agg #[.int .i64 r.code, .string r.reason, .int .i64 r.minor, .slice fa r.fs.length fc, .slice ba r.body.length bc], .int .i64 (r.n : Nat), .bool r.ok]
def RespR (w : World) (r : Rp) (e : Ending) (w' : World) : Prop := ∃ fa ba fc bc, e = .returned (rpV r fa ba fc bc) ∧ OwnF w.heap.size w' (.slice fa r.fs.length fc) r.fs ∧ Own w.heap.size w' (.slice ba r.body.length bc) r.body ∧ Below w.heap.size w w'
theorem rpNo_ok {w w' : World} {b : Bool} (hB : Below w.heap.size w w') : RespR w (rpNo b) (.returned (.tuple #[.agg #[.int .i64 0, .string ⟨#[]⟩, .int .i64 0, .slice none 0 0, .slice none 0 0], .int .i64 0, .bool b])) w' := ⟨none, none, 0, 0, rfl, OwnF.nil _ _, Own.nil _ _, hB⟩

set_option maxRecDepth 100000 in
set_option maxHeartbeats 4000000 in
theorem rres_any (b : List UInt8) (method : ByteArray) (ended : Bool) (kb c : Nat) (a : Option Addr) (w : World) (hs : Src w kb (.slice a b.length c) b) (hk : 0 < b.length → kb < w.heap.size) (hM : MaxL w) (hlen : b.length ≤ 1048576) :
    Calls Tryz.prog 71 #[.slice a b.length c, .string method, .bool ended] w (RespR w (rresQ b method ended)) := by
  have U0 : Below w.heap.size w (w.alloc (.cells #[.int .i64 0, .string ⟨#[]⟩, .int .i64 0, .slice none 0 0, .slice none 0 0] 40)) := (Below.refl _ _).alloc (Nat.le_refl _) _
  have HRD : Hid (Calls Tryz.prog 102 #[.slice a b.length c, .func (.func 112) #[] #[.pointer (some ⟨w.heap.size + 1, 0, none⟩)]] ((w.alloc (.cells #[.int .i64 0, .string ⟨#[]⟩, .int .i64 0, .slice none 0 0, .slice none 0 0] 40)).alloc (.cells #[.int .i64 0, .string ⟨#[]⟩, .int .i64 0, .slice none 0 0, .slice none 0 0] 40)) fun e w' => ∃ fa fc, e = .returned (.tuple #[.slice fa (headL stSt b).1.length fc, .int .i64 ((headL stSt b).2.1 : Nat), .int .i64 (headL stSt b).2.2]) ∧ OwnF (w.heap.size + 2) w' (.slice fa (headL stSt b).1.length fc) (headL stSt b).1 ∧ w.heap.size + 2 ≤ w'.heap.size ∧ Below w.heap.size w w' ∧ w'.heap[w.heap.size]? = some (.cells #[.int .i64 0, .string ⟨#[]⟩, .int .i64 0, .slice none 0 0, .slice none 0 0] 40) ∧ (¬ (headL stSt b).2.1 = 0 → w'.heap[w.heap.size + 1]? = some (.cells #[.int .i64 (statP (firstL b)).code, .string (statP (firstL b)).reason, .int .i64 (statP (firstL b)).minor, .slice none 0 0, .slice none 0 0] 40))) := by
    have k := readB_any b kb c a (.int .i64 0) (.string ⟨#[]⟩) (.int .i64 0) (.slice none 0 0) (.slice none 0 0) (w.alloc (.cells #[.int .i64 0, .string ⟨#[]⟩, .int .i64 0, .slice none 0 0, .slice none 0 0] 40)) ((w.alloc (.cells #[.int .i64 0, .string ⟨#[]⟩, .int .i64 0, .slice none 0 0, .slice none 0 0] 40)).alloc (.cells #[.int .i64 0, .string ⟨#[]⟩, .int .i64 0, .slice none 0 0, .slice none 0 0] 40)) (PI.new _ _) (hs.keep hk U0) (fun q => Nat.lt_of_lt_of_le (hk q) U0.size) (hM.below U0)
    have e1 : (w.alloc (.cells #[.int .i64 0, .string ⟨#[]⟩, .int .i64 0, .slice none 0 0, .slice none 0 0] 40)).heap.size = w.heap.size + 1 := by simp
    have e2 : ((w.alloc (.cells #[.int .i64 0, .string ⟨#[]⟩, .int .i64 0, .slice none 0 0, .slice none 0 0] 40)).alloc (.cells #[.int .i64 0, .string ⟨#[]⟩, .int .i64 0, .slice none 0 0, .slice none 0 0] 40)).heap.size = w.heap.size + 2 := by simp
    rw [e1, e2] at k
    refine k.mono ?_
    rintro e w' ⟨fa, fc, he, hO, o, hP, ho⟩
    have hb := hP.below
    have hw := hP.own
    rw [e1] at hb hw
    refine ⟨fa, fc, he, hO, ?_, U0.trans (hb.mono (by simp)), ?_, fun q => ?_⟩
    · have q := heap_lt hw; omega
    · rw [hb.block w.heap.size (by simp), tblk_new]
    · rw [hw, ho q]
  have hlo := headL_ok stSt b
  have HF : Hid (∀ (W : World) (fa : Option Addr) (fc : Nat), Below w.heap.size w W → Fds W.heap.size W (.slice fa (headL stSt b).1.length fc) (headL stSt b).1 → Calls Tryz.prog 49 #[.string method, .agg #[.int .i64 (statP (firstL b)).code, .string (statP (firstL b)).reason, .int .i64 (statP (firstL b)).minor, .slice fa (headL stSt b).1.length fc, .slice none 0 0]] W fun e w' => e = .returned (.tuple #[.int .i64 (respF method (statP (firstL b)).code (statP (firstL b)).minor (headL stSt b).1).1, .int .i64 (respF method (statP (firstL b)).code (statP (firstL b)).minor (headL stSt b).1).2.1, .bool (respF method (statP (firstL b)).code (statP (firstL b)).minor (headL stSt b).1).2.2]) ∧ Below W.heap.size W w') := fun W fa fc B F => response_any method _ _ _ _ fa none fc 0 0 W F (bd_big hlo.bd) (by have := hlo.len; omega) (hM.below B)
  have hszn : 0 ≤ (respF method (statP (firstL b)).code (statP (firstL b)).minor (headL stSt b).1).2.1 ∧ (respF method (statP (firstL b)).code (statP (firstL b)).minor (headL stSt b).1).2.1 ≤ 4096 := by
    have k := told_nn (headL stSt b).1 (statP (firstL b)).minor
    unfold respF
    split
    · exact ⟨by decide, by decide⟩
    · exact k
  obtain ⟨sz, hsz⟩ : ∃ sz : Nat, (respF method (statP (firstL b)).code (statP (firstL b)).minor (headL stSt b).1).2.1 = (sz : Int) := ⟨(respF method (statP (firstL b)).code (statP (firstL b)).minor (headL stSt b).1).2.1.toNat, by omega⟩
  have hszb : sz ≤ 4096 := by omega
  have hnle : (headL stSt b).2.1 ≤ b.length := by have := hlo.le; omega
  have HB : Hid (∀ (W : World) (s : Nat) (cd : Bool), Below w.heap.size w W → s ≤ 1048576 → Calls Tryz.prog 65 #[.slice a b.length c, .int .i64 ((headL stSt b).2.1 : Nat), .int .i64 (s : Nat), .bool cd] W (DecQ W (bodyQ b (headL stSt b).2.1 (s : Nat) cd))) := fun W s cd B h => body_any b kb c a _ s cd W (hs.keep hk B) (fun q => Nat.lt_of_lt_of_le (hk q) B.size) (hM.below B) hnle (Nat.le_trans hlen (by decide)) h
  have HQ : Hid (rresQ b method ended = if (headL stSt b).2.1 = 0 then rpNo (decide ((headL stSt b).2.2 = 0)) else rbodyQ (statP (firstL b)) (headL stSt b).1 b (headL stSt b).2.1 (respF method (statP (firstL b)).code (statP (firstL b)).minor (headL stSt b).1) ended) := rfl
  clear hs hk hM U0 hlo hszn
  generalize rresQ b method ended = Q at *
  generalize respF method (statP (firstL b)).code (statP (firstL b)).minor (headL stSt b).1 = K at *
  obtain ⟨kd, K2, rt⟩ := K
  simp only at hsz
  subst hsz
  generalize statP (firstL b) = S at *
  obtain ⟨code, reason, mi, sok⟩ := S
  generalize headL stSt b = H at *
  obtain ⟨fs, n, st⟩ := H
  simp only at HRD HF HB HQ hnle
  by_cases h0 : n = 0
  · subst h0
    rw [if_pos rfl] at HQ
    clear HF HB hnle
    generalize b.length = bl at *
    go_enter Tryz.func71, Tryz.ntmps71
    go_wp2_with fail
    refine HRD.out.mono ?_
    rintro e w1 ⟨fa, fc, rfl, hO, hsz, B1, hg, _⟩
    have HB1 : Hid _ := five_below (.int .i64 0) (.string ⟨#[]⟩) (.int .i64 0) (.slice none 0 0) (.slice none 0 0) B1 (Nat.le_refl _)
    unfold five at HB1
    clear HRD hO hsz B1
    have HW := five_cells hg (.int .i64 0) (.string ⟨#[]⟩) (.int .i64 0) (.slice none 0 0) (.slice none 0 0)
    have a0 := tblk_cell (i := 0) hg rfl
    have z0 := lblk_z (i := 0) hg
    have a1 := tblk_cell (i := 1) hg rfl
    have z1 := lblk_z (i := 1) hg
    have a2 := tblk_cell (i := 2) hg rfl
    have z2 := lblk_z (i := 2) hg
    have a3 := tblk_cell (i := 3) hg rfl
    have z3 := lblk_z (i := 3) hg
    have a4 := tblk_cell (i := 4) hg rfl
    have z4 := lblk_z (i := 4) hg
    have r0 := tblk_cell (i := 0) HW rfl
    have r1 := tblk_cell (i := 1) HW rfl
    have r2 := tblk_cell (i := 2) HW rfl
    have r3 := tblk_cell (i := 3) HW rfl
    have r4 := tblk_cell (i := 4) HW rfl
    unfold five at r0 r1 r2 r3 r4
    clear HW hg
    go_wp2
    refine bodyPost_ret (v := .tuple #[.agg #[.int .i64 0, .string ⟨#[]⟩, .int .i64 0, .slice none 0 0, .slice none 0 0], .int .i64 0, .bool (st == 0)]) (by simp [results, Tryz.results71, go_sem, r0, r1, r2, r3, r4]) rfl ?_
    rw [HQ.out, eq_dec]
    exact rpNo_ok HB1.out
  · have hn' : ¬ ((n : Nat) : Int) = 0 := by omega
    have hn'' : (((n : Nat) : Int) == 0) = false := by simpa using hn'
    rw [if_neg h0] at HQ
    have hsub : IntKind.i64.wrap ((b.length : Int) - (n : Int)) = ((b.length - n : Nat) : Int) := by simp [IntKind.wrap, IntKind.bits, IntKind.signed]; omega
    by_cases h3 : kd = 3
    · subst h3
      by_cases hbig : ((b.length - n : Nat) : Int) ≤ 4096
      · have hbb : decide (((b.length - n : Nat) : Int) ≤ 4096) = true := decide_eq_true hbig
        cases ended
        · have HE : Hid (Q = rpNo true) := by
            rw [Hid, HQ.out]
            unfold rbodyQ
            rw [if_pos rfl, if_pos hbig, if_neg (by decide)]
          clear HQ HB
          generalize b.length - n = bn at *
          generalize b.length = bl at *
          go_enter Tryz.func71, Tryz.ntmps71
          go_wp2_with fail
          refine HRD.out.mono ?_
          rintro e w1 ⟨fa, fc, rfl, hO, hsz, B1, hg, hr⟩
          have hr1 := hr h0
          have hr2 := field3 (v := .slice fa fs.length fc) hr1
          have hg2 : (w1.setCell ⟨w.heap.size + 1, 3, none⟩ (.slice fa fs.length fc)).heap[w.heap.size]? = some (.cells #[.int .i64 0, .string ⟨#[]⟩, .int .i64 0, .slice none 0 0, .slice none 0 0] 40) := (set_away (by omega)).trans hg
          have hO2 : OwnF (w.heap.size + 2) (w1.setCell ⟨w.heap.size + 1, 3, none⟩ (.slice fa fs.length fc)) (.slice fa fs.length fc) fs := hO.away (fun k hk => set_away (by omega))
          have B2 : Below w.heap.size w (w1.setCell ⟨w.heap.size + 1, 3, none⟩ (.slice fa fs.length fc)) := B1.setCell (p := ⟨w.heap.size + 1, 3, none⟩) (Nat.le_succ _) _
          have hs2 : w.heap.size + 2 ≤ (w1.setCell ⟨w.heap.size + 1, 3, none⟩ (.slice fa fs.length fc)).heap.size := by rw [set_size]; exact hsz
          have y3 := tblk_cell (i := 3) hr1 rfl
          have x3 := lblk_z (i := 3) hr1
          have d0 := tblk_cell (i := 0) hr2 rfl
          have d1 := tblk_cell (i := 1) hr2 rfl
          have d2 := tblk_cell (i := 2) hr2 rfl
          have d3 := tblk_cell (i := 3) hr2 rfl
          have d4 := tblk_cell (i := 4) hr2 rfl
          clear hr1 hg hO B1 HRD hr hsz
          go_wp2_with fail
          clear y3 x3 d0 d1 d2 d3 d4
          generalize w1.setCell ⟨w.heap.size + 1, 3, none⟩ (.slice fa fs.length fc) = w2 at *
          refine (HF.out w2 fa fc B2 hO2.fds).mono ?_
          rintro e w3 ⟨rfl, B3⟩
          have D3 := B2.trans (B3.mono B2.size)
          have hg3 := tblk_below hg2 B3
          have HB1 : Hid _ := five_below (.int .i64 0) (.string ⟨#[]⟩) (.int .i64 0) (.slice none 0 0) (.slice none 0 0) D3 (Nat.le_refl _)
          unfold five at HB1
          clear hg2 hr2 hO2 B2 B3 D3 hs2 HF
          have HW := five_cells hg3 (.int .i64 0) (.string ⟨#[]⟩) (.int .i64 0) (.slice none 0 0) (.slice none 0 0)
          have a0 := tblk_cell (i := 0) hg3 rfl
          have z0 := lblk_z (i := 0) hg3
          have a1 := tblk_cell (i := 1) hg3 rfl
          have z1 := lblk_z (i := 1) hg3
          have a2 := tblk_cell (i := 2) hg3 rfl
          have z2 := lblk_z (i := 2) hg3
          have a3 := tblk_cell (i := 3) hg3 rfl
          have z3 := lblk_z (i := 3) hg3
          have a4 := tblk_cell (i := 4) hg3 rfl
          have z4 := lblk_z (i := 4) hg3
          have r0 := tblk_cell (i := 0) HW rfl
          have r1 := tblk_cell (i := 1) HW rfl
          have r2 := tblk_cell (i := 2) HW rfl
          have r3 := tblk_cell (i := 3) HW rfl
          have r4 := tblk_cell (i := 4) HW rfl
          unfold five at r0 r1 r2 r3 r4
          clear HW hg3
          go_wp2
          refine bodyPost_ret (v := .tuple #[.agg #[.int .i64 0, .string ⟨#[]⟩, .int .i64 0, .slice none 0 0, .slice none 0 0], .int .i64 0, .bool true]) (by simp [results, Tryz.results71, go_sem, r0, r1, r2, r3, r4]) rfl ?_
          rw [HE.out]
          exact rpNo_ok HB1.out
        · have HE : Hid (Q = ⟨code, reason, mi, fs, b.drop n, b.length, true⟩) := by
            rw [Hid, HQ.out]
            unfold rbodyQ
            rw [if_pos rfl, if_pos hbig, if_pos rfl]
          have HBB : Hid (∀ W, Below w.heap.size w W → Calls Tryz.prog 65 #[.slice a b.length c, .int .i64 (n : Nat), .int .i64 ((b.length - n : Nat) : Int), .bool false] W (DecQ W (b.drop n, b.length, 0))) := fun W B => by
            have k := HB.out W (b.length - n) false B (by omega)
            have e : bodyQ b n ((b.length - n : Nat) : Int) false = (b.drop n, b.length, 0) := by
              unfold bodyQ
              rw [if_neg (by decide), if_neg (by omega), Int.toNat_natCast, List.take_of_length_le (by rw [List.length_drop]; exact Nat.le_refl _)]
              congr 2
              omega
            rw [e] at k
            exact k
          clear HQ HB
          generalize b.drop n = X1 at *
          obtain ⟨X2, hX2⟩ : ∃ X2, X2 = b.length := ⟨_, rfl⟩
          have HX2 : Hid (X2 = b.length) := hX2
          have HBB2 : Hid (∀ W, Below w.heap.size w W → Calls Tryz.prog 65 #[.slice a b.length c, .int .i64 (n : Nat), .int .i64 ((b.length - n : Nat) : Int), .bool false] W (DecQ W (X1, X2, 0))) := by rw [hX2]; exact HBB
          rw [← HX2.out] at HE
          clear hX2 HBB
          generalize b.length - n = bn at *
          generalize b.length = bl at *
          go_enter Tryz.func71, Tryz.ntmps71
          go_wp2_with fail
          refine HRD.out.mono ?_
          rintro e w1 ⟨fa, fc, rfl, hO, hsz, B1, hg, hr⟩
          have hr1 := hr h0
          have hr2 := field3 (v := .slice fa fs.length fc) hr1
          have hg2 : (w1.setCell ⟨w.heap.size + 1, 3, none⟩ (.slice fa fs.length fc)).heap[w.heap.size]? = some (.cells #[.int .i64 0, .string ⟨#[]⟩, .int .i64 0, .slice none 0 0, .slice none 0 0] 40) := (set_away (by omega)).trans hg
          have hO2 : OwnF (w.heap.size + 2) (w1.setCell ⟨w.heap.size + 1, 3, none⟩ (.slice fa fs.length fc)) (.slice fa fs.length fc) fs := hO.away (fun k hk => set_away (by omega))
          have B2 : Below w.heap.size w (w1.setCell ⟨w.heap.size + 1, 3, none⟩ (.slice fa fs.length fc)) := B1.setCell (p := ⟨w.heap.size + 1, 3, none⟩) (Nat.le_succ _) _
          have hs2 : w.heap.size + 2 ≤ (w1.setCell ⟨w.heap.size + 1, 3, none⟩ (.slice fa fs.length fc)).heap.size := by rw [set_size]; exact hsz
          have y3 := tblk_cell (i := 3) hr1 rfl
          have x3 := lblk_z (i := 3) hr1
          have d0 := tblk_cell (i := 0) hr2 rfl
          have d1 := tblk_cell (i := 1) hr2 rfl
          have d2 := tblk_cell (i := 2) hr2 rfl
          have d3 := tblk_cell (i := 3) hr2 rfl
          have d4 := tblk_cell (i := 4) hr2 rfl
          clear hr1 hg hO B1 HRD hr hsz
          go_wp2_with fail
          clear y3 x3 d0 d1 d2 d3 d4
          generalize w1.setCell ⟨w.heap.size + 1, 3, none⟩ (.slice fa fs.length fc) = w2 at *
          refine (HF.out w2 fa fc B2 hO2.fds).mono ?_
          rintro e w3 ⟨rfl, B3⟩
          have D3 := B2.trans (B3.mono B2.size)
          have hg3 := tblk_below hg2 B3
          have hr3 := tblk_below hr2 B3
          have O3 := hO2.keep B3
          have hs3 : w.heap.size + 2 ≤ w3.heap.size := Nat.le_trans hs2 B3.size
          clear hg2 hr2 hO2 B2 B3 hs2 HF
          go_wp2_with fail
          refine (HBB2.out w3 D3).mono ?_
          rintro e w4 ⟨v4, rfl, P4, B4⟩
          obtain ⟨ad4, c4, rfl, _⟩ := P4.form
          have D4 := D3.trans (B4.mono D3.size)
          have hg4 := tblk_below hg3 B4
          have hr4 := tblk_below hr3 B4
          have O4 := O3.keep B4
          clear hg3 hr3 O3 HBB2
          have hr5 := field4 (v := .slice ad4 X1.length c4) hr4
          have hg5 : (w4.setCell ⟨w.heap.size + 1, 4, none⟩ (.slice ad4 X1.length c4)).heap[w.heap.size]? = some (.cells #[.int .i64 0, .string ⟨#[]⟩, .int .i64 0, .slice none 0 0, .slice none 0 0] 40) := (set_away (by omega)).trans hg4
          have D5 : Below w.heap.size w (w4.setCell ⟨w.heap.size + 1, 4, none⟩ (.slice ad4 X1.length c4)) := D4.setCell (p := ⟨w.heap.size + 1, 4, none⟩) (Nat.le_succ _) _
          have HB5 : Hid _ := five_below (.int .i64 code) (.string reason) (.int .i64 mi) (.slice fa fs.length fc) (.slice ad4 X1.length c4) D5 (Nat.le_refl _)
          have HO5 : Hid (OwnF w.heap.size (five (w4.setCell ⟨w.heap.size + 1, 4, none⟩ (.slice ad4 X1.length c4)) w.heap.size (.int .i64 code) (.string reason) (.int .i64 mi) (.slice fa fs.length fc) (.slice ad4 X1.length c4)) (.slice fa fs.length fc) fs) := (O4.away (fun k hk => (five_away (by omega)).trans (set_away (by omega)))).mono (by omega)
          have HP5 : Hid (Own w.heap.size (five (w4.setCell ⟨w.heap.size + 1, 4, none⟩ (.slice ad4 X1.length c4)) w.heap.size (.int .i64 code) (.string reason) (.int .i64 mi) (.slice fa fs.length fc) (.slice ad4 X1.length c4)) (.slice ad4 X1.length c4) X1) := (P4.kept (fun k h1 h2 => (five_away (by omega)).trans (set_away (by omega)))).mono (by omega)
          unfold five at HB5 HO5 HP5
          have y4 := tblk_cell (i := 4) hr4 rfl
          have x4 := lblk_z (i := 4) hr4
          have d0 := tblk_cell (i := 0) hr5 rfl
          have d1 := tblk_cell (i := 1) hr5 rfl
          have d2 := tblk_cell (i := 2) hr5 rfl
          have d3 := tblk_cell (i := 3) hr5 rfl
          have d4 := tblk_cell (i := 4) hr5 rfl
          clear hr4 hr5 hg4 D3 D4 D5 O4 P4 B4 hs3
          generalize hxl : X1.length = xl at *
          have HXL : Hid (X1.length = xl) := hxl
          clear hxl
          have HW := five_cells hg5 (.int .i64 code) (.string reason) (.int .i64 mi) (.slice fa fs.length fc) (.slice ad4 xl c4)
          have a0 := tblk_cell (i := 0) hg5 rfl
          have z0 := lblk_z (i := 0) hg5
          have a1 := tblk_cell (i := 1) hg5 rfl
          have z1 := lblk_z (i := 1) hg5
          have a2 := tblk_cell (i := 2) hg5 rfl
          have z2 := lblk_z (i := 2) hg5
          have a3 := tblk_cell (i := 3) hg5 rfl
          have z3 := lblk_z (i := 3) hg5
          have a4 := tblk_cell (i := 4) hg5 rfl
          have z4 := lblk_z (i := 4) hg5
          have r0 := tblk_cell (i := 0) HW rfl
          have r1 := tblk_cell (i := 1) HW rfl
          have r2 := tblk_cell (i := 2) HW rfl
          have r3 := tblk_cell (i := 3) HW rfl
          have r4 := tblk_cell (i := 4) HW rfl
          unfold five at r0 r1 r2 r3 r4
          clear HW hg5
          go_wp2
          refine bodyPost_ret (v := .tuple #[.agg #[.int .i64 code, .string reason, .int .i64 mi, .slice fa fs.length fc, .slice ad4 xl c4], .int .i64 (X2 : Nat), .bool true]) (by simp [results, Tryz.results71, go_sem, r0, r1, r2, r3, r4]) rfl ?_
          rw [HE.out]
          obtain rfl := HXL.out
          exact ⟨fa, ad4, fc, c4, rfl, HO5.out, HP5.out, HB5.out⟩
      · have hbb : decide (((b.length - n : Nat) : Int) ≤ 4096) = false := decide_eq_false hbig
        have HE : Hid (Q = rpNo false) := by
          rw [Hid, HQ.out]
          unfold rbodyQ
          rw [if_pos rfl, if_neg hbig]
        clear HQ HB
        generalize b.length - n = bn at *
        generalize b.length = bl at *
        go_enter Tryz.func71, Tryz.ntmps71
        go_wp2_with fail
        refine HRD.out.mono ?_
        rintro e w1 ⟨fa, fc, rfl, hO, hsz, B1, hg, hr⟩
        have hr1 := hr h0
        have hr2 := field3 (v := .slice fa fs.length fc) hr1
        have hg2 : (w1.setCell ⟨w.heap.size + 1, 3, none⟩ (.slice fa fs.length fc)).heap[w.heap.size]? = some (.cells #[.int .i64 0, .string ⟨#[]⟩, .int .i64 0, .slice none 0 0, .slice none 0 0] 40) := (set_away (by omega)).trans hg
        have hO2 : OwnF (w.heap.size + 2) (w1.setCell ⟨w.heap.size + 1, 3, none⟩ (.slice fa fs.length fc)) (.slice fa fs.length fc) fs := hO.away (fun k hk => set_away (by omega))
        have B2 : Below w.heap.size w (w1.setCell ⟨w.heap.size + 1, 3, none⟩ (.slice fa fs.length fc)) := B1.setCell (p := ⟨w.heap.size + 1, 3, none⟩) (Nat.le_succ _) _
        have hs2 : w.heap.size + 2 ≤ (w1.setCell ⟨w.heap.size + 1, 3, none⟩ (.slice fa fs.length fc)).heap.size := by rw [set_size]; exact hsz
        have y3 := tblk_cell (i := 3) hr1 rfl
        have x3 := lblk_z (i := 3) hr1
        have d0 := tblk_cell (i := 0) hr2 rfl
        have d1 := tblk_cell (i := 1) hr2 rfl
        have d2 := tblk_cell (i := 2) hr2 rfl
        have d3 := tblk_cell (i := 3) hr2 rfl
        have d4 := tblk_cell (i := 4) hr2 rfl
        clear hr1 hg hO B1 HRD hr hsz
        go_wp2_with fail
        clear y3 x3 d0 d1 d2 d3 d4
        generalize w1.setCell ⟨w.heap.size + 1, 3, none⟩ (.slice fa fs.length fc) = w2 at *
        refine (HF.out w2 fa fc B2 hO2.fds).mono ?_
        rintro e w3 ⟨rfl, B3⟩
        have D3 := B2.trans (B3.mono B2.size)
        have hg3 := tblk_below hg2 B3
        have HB1 : Hid _ := five_below (.int .i64 0) (.string ⟨#[]⟩) (.int .i64 0) (.slice none 0 0) (.slice none 0 0) D3 (Nat.le_refl _)
        unfold five at HB1
        clear hg2 hr2 hO2 B2 B3 D3 hs2 HF
        have HW := five_cells hg3 (.int .i64 0) (.string ⟨#[]⟩) (.int .i64 0) (.slice none 0 0) (.slice none 0 0)
        have a0 := tblk_cell (i := 0) hg3 rfl
        have z0 := lblk_z (i := 0) hg3
        have a1 := tblk_cell (i := 1) hg3 rfl
        have z1 := lblk_z (i := 1) hg3
        have a2 := tblk_cell (i := 2) hg3 rfl
        have z2 := lblk_z (i := 2) hg3
        have a3 := tblk_cell (i := 3) hg3 rfl
        have z3 := lblk_z (i := 3) hg3
        have a4 := tblk_cell (i := 4) hg3 rfl
        have z4 := lblk_z (i := 4) hg3
        have r0 := tblk_cell (i := 0) HW rfl
        have r1 := tblk_cell (i := 1) HW rfl
        have r2 := tblk_cell (i := 2) HW rfl
        have r3 := tblk_cell (i := 3) HW rfl
        have r4 := tblk_cell (i := 4) HW rfl
        unfold five at r0 r1 r2 r3 r4
        clear HW hg3
        go_wp2
        refine bodyPost_ret (v := .tuple #[.agg #[.int .i64 0, .string ⟨#[]⟩, .int .i64 0, .slice none 0 0, .slice none 0 0], .int .i64 0, .bool false]) (by simp [results, Tryz.results71, go_sem, r0, r1, r2, r3, r4]) rfl ?_
        rw [HE.out]
        exact rpNo_ok HB1.out
    · have h3' : (kd == 3) = false := by simpa using h3
      cases rt
      · have HE : Hid (Q = rpNo false) := by
          rw [Hid, HQ.out]
          unfold rbodyQ
          rw [if_neg h3, if_pos rfl]
        clear HQ HB
        generalize b.length - n = bn at *
        generalize b.length = bl at *
        go_enter Tryz.func71, Tryz.ntmps71
        go_wp2_with fail
        refine HRD.out.mono ?_
        rintro e w1 ⟨fa, fc, rfl, hO, hsz, B1, hg, hr⟩
        have hr1 := hr h0
        have hr2 := field3 (v := .slice fa fs.length fc) hr1
        have hg2 : (w1.setCell ⟨w.heap.size + 1, 3, none⟩ (.slice fa fs.length fc)).heap[w.heap.size]? = some (.cells #[.int .i64 0, .string ⟨#[]⟩, .int .i64 0, .slice none 0 0, .slice none 0 0] 40) := (set_away (by omega)).trans hg
        have hO2 : OwnF (w.heap.size + 2) (w1.setCell ⟨w.heap.size + 1, 3, none⟩ (.slice fa fs.length fc)) (.slice fa fs.length fc) fs := hO.away (fun k hk => set_away (by omega))
        have B2 : Below w.heap.size w (w1.setCell ⟨w.heap.size + 1, 3, none⟩ (.slice fa fs.length fc)) := B1.setCell (p := ⟨w.heap.size + 1, 3, none⟩) (Nat.le_succ _) _
        have hs2 : w.heap.size + 2 ≤ (w1.setCell ⟨w.heap.size + 1, 3, none⟩ (.slice fa fs.length fc)).heap.size := by rw [set_size]; exact hsz
        have y3 := tblk_cell (i := 3) hr1 rfl
        have x3 := lblk_z (i := 3) hr1
        have d0 := tblk_cell (i := 0) hr2 rfl
        have d1 := tblk_cell (i := 1) hr2 rfl
        have d2 := tblk_cell (i := 2) hr2 rfl
        have d3 := tblk_cell (i := 3) hr2 rfl
        have d4 := tblk_cell (i := 4) hr2 rfl
        clear hr1 hg hO B1 HRD hr hsz
        go_wp2_with fail
        clear y3 x3 d0 d1 d2 d3 d4
        generalize w1.setCell ⟨w.heap.size + 1, 3, none⟩ (.slice fa fs.length fc) = w2 at *
        refine (HF.out w2 fa fc B2 hO2.fds).mono ?_
        rintro e w3 ⟨rfl, B3⟩
        have D3 := B2.trans (B3.mono B2.size)
        have hg3 := tblk_below hg2 B3
        have HB1 : Hid _ := five_below (.int .i64 0) (.string ⟨#[]⟩) (.int .i64 0) (.slice none 0 0) (.slice none 0 0) D3 (Nat.le_refl _)
        unfold five at HB1
        clear hg2 hr2 hO2 B2 B3 D3 hs2 HF
        have HW := five_cells hg3 (.int .i64 0) (.string ⟨#[]⟩) (.int .i64 0) (.slice none 0 0) (.slice none 0 0)
        have a0 := tblk_cell (i := 0) hg3 rfl
        have z0 := lblk_z (i := 0) hg3
        have a1 := tblk_cell (i := 1) hg3 rfl
        have z1 := lblk_z (i := 1) hg3
        have a2 := tblk_cell (i := 2) hg3 rfl
        have z2 := lblk_z (i := 2) hg3
        have a3 := tblk_cell (i := 3) hg3 rfl
        have z3 := lblk_z (i := 3) hg3
        have a4 := tblk_cell (i := 4) hg3 rfl
        have z4 := lblk_z (i := 4) hg3
        have r0 := tblk_cell (i := 0) HW rfl
        have r1 := tblk_cell (i := 1) HW rfl
        have r2 := tblk_cell (i := 2) HW rfl
        have r3 := tblk_cell (i := 3) HW rfl
        have r4 := tblk_cell (i := 4) HW rfl
        unfold five at r0 r1 r2 r3 r4
        clear HW hg3
        go_wp2
        refine bodyPost_ret (v := .tuple #[.agg #[.int .i64 0, .string ⟨#[]⟩, .int .i64 0, .slice none 0 0, .slice none 0 0], .int .i64 0, .bool false]) (by simp [results, Tryz.results71, go_sem, r0, r1, r2, r3, r4]) rfl ?_
        rw [HE.out]
        exact rpNo_ok HB1.out
      · have HE0 : Hid (Q = ⟨code, reason, mi, fs, (bodyQ b n (sz : Nat) (decide (kd = 2))).1, (bodyQ b n (sz : Nat) (decide (kd = 2))).2.1, decide ((bodyQ b n (sz : Nat) (decide (kd = 2))).2.2 = 0)⟩) := by
          rw [Hid, HQ.out]
          unfold rbodyQ
          rw [if_neg h3, if_neg (fun k => Bool.noConfusion k)]
        have HBB2 : Hid (∀ W, Below w.heap.size w W → Calls Tryz.prog 65 #[.slice a b.length c, .int .i64 (n : Nat), .int .i64 (sz : Nat), .bool (kd == 2)] W (DecQ W (bodyQ b n (sz : Nat) (decide (kd = 2))))) := fun W B => by
          rw [eq_dec]
          exact HB.out W sz _ B (by omega)
        clear HQ HB
        generalize bodyQ b n (sz : Nat) (decide (kd = 2)) = X at *
        obtain ⟨X1, X2, X3⟩ := X
        have HE : Hid (Q = ⟨code, reason, mi, fs, X1, X2, decide (X3 = 0)⟩) := HE0.out
        clear HE0
        generalize b.length - n = bn at *
        generalize b.length = bl at *
        go_enter Tryz.func71, Tryz.ntmps71
        go_wp2_with fail
        refine HRD.out.mono ?_
        rintro e w1 ⟨fa, fc, rfl, hO, hsz, B1, hg, hr⟩
        have hr1 := hr h0
        have hr2 := field3 (v := .slice fa fs.length fc) hr1
        have hg2 : (w1.setCell ⟨w.heap.size + 1, 3, none⟩ (.slice fa fs.length fc)).heap[w.heap.size]? = some (.cells #[.int .i64 0, .string ⟨#[]⟩, .int .i64 0, .slice none 0 0, .slice none 0 0] 40) := (set_away (by omega)).trans hg
        have hO2 : OwnF (w.heap.size + 2) (w1.setCell ⟨w.heap.size + 1, 3, none⟩ (.slice fa fs.length fc)) (.slice fa fs.length fc) fs := hO.away (fun k hk => set_away (by omega))
        have B2 : Below w.heap.size w (w1.setCell ⟨w.heap.size + 1, 3, none⟩ (.slice fa fs.length fc)) := B1.setCell (p := ⟨w.heap.size + 1, 3, none⟩) (Nat.le_succ _) _
        have hs2 : w.heap.size + 2 ≤ (w1.setCell ⟨w.heap.size + 1, 3, none⟩ (.slice fa fs.length fc)).heap.size := by rw [set_size]; exact hsz
        have y3 := tblk_cell (i := 3) hr1 rfl
        have x3 := lblk_z (i := 3) hr1
        have d0 := tblk_cell (i := 0) hr2 rfl
        have d1 := tblk_cell (i := 1) hr2 rfl
        have d2 := tblk_cell (i := 2) hr2 rfl
        have d3 := tblk_cell (i := 3) hr2 rfl
        have d4 := tblk_cell (i := 4) hr2 rfl
        clear hr1 hg hO B1 HRD hr hsz
        go_wp2_with fail
        clear y3 x3 d0 d1 d2 d3 d4
        generalize w1.setCell ⟨w.heap.size + 1, 3, none⟩ (.slice fa fs.length fc) = w2 at *
        refine (HF.out w2 fa fc B2 hO2.fds).mono ?_
        rintro e w3 ⟨rfl, B3⟩
        have D3 := B2.trans (B3.mono B2.size)
        have hg3 := tblk_below hg2 B3
        have hr3 := tblk_below hr2 B3
        have O3 := hO2.keep B3
        have hs3 : w.heap.size + 2 ≤ w3.heap.size := Nat.le_trans hs2 B3.size
        clear hg2 hr2 hO2 B2 B3 hs2 HF
        go_wp2_with fail
        refine (HBB2.out w3 D3).mono ?_
        rintro e w4 ⟨v4, rfl, P4, B4⟩
        obtain ⟨ad4, c4, rfl, _⟩ := P4.form
        have D4 := D3.trans (B4.mono D3.size)
        have hg4 := tblk_below hg3 B4
        have hr4 := tblk_below hr3 B4
        have O4 := O3.keep B4
        clear hg3 hr3 O3 HBB2
        have hr5 := field4 (v := .slice ad4 X1.length c4) hr4
        have hg5 : (w4.setCell ⟨w.heap.size + 1, 4, none⟩ (.slice ad4 X1.length c4)).heap[w.heap.size]? = some (.cells #[.int .i64 0, .string ⟨#[]⟩, .int .i64 0, .slice none 0 0, .slice none 0 0] 40) := (set_away (by omega)).trans hg4
        have D5 : Below w.heap.size w (w4.setCell ⟨w.heap.size + 1, 4, none⟩ (.slice ad4 X1.length c4)) := D4.setCell (p := ⟨w.heap.size + 1, 4, none⟩) (Nat.le_succ _) _
        have HB5 : Hid _ := five_below (.int .i64 code) (.string reason) (.int .i64 mi) (.slice fa fs.length fc) (.slice ad4 X1.length c4) D5 (Nat.le_refl _)
        have HO5 : Hid (OwnF w.heap.size (five (w4.setCell ⟨w.heap.size + 1, 4, none⟩ (.slice ad4 X1.length c4)) w.heap.size (.int .i64 code) (.string reason) (.int .i64 mi) (.slice fa fs.length fc) (.slice ad4 X1.length c4)) (.slice fa fs.length fc) fs) := (O4.away (fun k hk => (five_away (by omega)).trans (set_away (by omega)))).mono (by omega)
        have HP5 : Hid (Own w.heap.size (five (w4.setCell ⟨w.heap.size + 1, 4, none⟩ (.slice ad4 X1.length c4)) w.heap.size (.int .i64 code) (.string reason) (.int .i64 mi) (.slice fa fs.length fc) (.slice ad4 X1.length c4)) (.slice ad4 X1.length c4) X1) := (P4.kept (fun k h1 h2 => (five_away (by omega)).trans (set_away (by omega)))).mono (by omega)
        unfold five at HB5 HO5 HP5
        have y4 := tblk_cell (i := 4) hr4 rfl
        have x4 := lblk_z (i := 4) hr4
        have d0 := tblk_cell (i := 0) hr5 rfl
        have d1 := tblk_cell (i := 1) hr5 rfl
        have d2 := tblk_cell (i := 2) hr5 rfl
        have d3 := tblk_cell (i := 3) hr5 rfl
        have d4 := tblk_cell (i := 4) hr5 rfl
        clear hr4 hr5 hg4 D3 D4 D5 O4 P4 B4 hs3
        generalize hxl : X1.length = xl at *
        have HXL : Hid (X1.length = xl) := hxl
        clear hxl
        have HW := five_cells hg5 (.int .i64 code) (.string reason) (.int .i64 mi) (.slice fa fs.length fc) (.slice ad4 xl c4)
        have a0 := tblk_cell (i := 0) hg5 rfl
        have z0 := lblk_z (i := 0) hg5
        have a1 := tblk_cell (i := 1) hg5 rfl
        have z1 := lblk_z (i := 1) hg5
        have a2 := tblk_cell (i := 2) hg5 rfl
        have z2 := lblk_z (i := 2) hg5
        have a3 := tblk_cell (i := 3) hg5 rfl
        have z3 := lblk_z (i := 3) hg5
        have a4 := tblk_cell (i := 4) hg5 rfl
        have z4 := lblk_z (i := 4) hg5
        have r0 := tblk_cell (i := 0) HW rfl
        have r1 := tblk_cell (i := 1) HW rfl
        have r2 := tblk_cell (i := 2) HW rfl
        have r3 := tblk_cell (i := 3) HW rfl
        have r4 := tblk_cell (i := 4) HW rfl
        unfold five at r0 r1 r2 r3 r4
        clear HW hg5
        go_wp2
        refine bodyPost_ret (v := .tuple #[.agg #[.int .i64 code, .string reason, .int .i64 mi, .slice fa fs.length fc, .slice ad4 xl c4], .int .i64 (X2 : Nat), .bool (X3 == 0)]) (by simp [results, Tryz.results71, go_sem, r0, r1, r2, r3, r4]) rfl ?_
        rw [HE.out]
        obtain rfl := HXL.out
        exact ⟨fa, ad4, fc, c4, by rw [eq_dec]; rfl, HO5.out, HP5.out, HB5.out⟩

set_option maxRecDepth 100000 in
set_option maxHeartbeats 4000000 in
theorem hresp_any (b : List UInt8) (method : ByteArray) (ended : Bool) (kb c : Nat) (a : Option Addr) (w : World) (hs : Src w kb (.slice a b.length c) b) (hk : 0 < b.length → kb < w.heap.size) (hM : MaxL w) (hlen : b.length ≤ 1048576) :
    Calls Tryz.prog 32 #[.slice a b.length c, .string method, .bool ended] w (RespR w (respQ b method ended)) := by
  have U0 : Below w.heap.size w (w.alloc (.cells #[.int .i64 0, .string ⟨#[]⟩, .int .i64 0, .slice none 0 0, .slice none 0 0] 40)) := (Below.refl _ _).alloc (Nat.le_refl _) _
  have HH : Hid (Calls Tryz.prog 71 #[.slice a b.length c, .string method, .bool ended] (w.alloc (.cells #[.int .i64 0, .string ⟨#[]⟩, .int .i64 0, .slice none 0 0, .slice none 0 0] 40)) fun e w' => ∃ fa ba fc bc, e = .returned (rpV (rresQ b method ended) fa ba fc bc) ∧ OwnF (w.heap.size + 1) w' (.slice fa (rresQ b method ended).fs.length fc) (rresQ b method ended).fs ∧ Own (w.heap.size + 1) w' (.slice ba (rresQ b method ended).body.length bc) (rresQ b method ended).body ∧ Below w.heap.size w w' ∧ w'.heap[w.heap.size]? = some (.cells #[.int .i64 0, .string ⟨#[]⟩, .int .i64 0, .slice none 0 0, .slice none 0 0] 40)) := by
    refine (rres_any b method ended kb c a _ (hs.keep hk U0) (fun q => Nat.lt_of_lt_of_le (hk q) U0.size) (hM.below U0) hlen).mono ?_
    rintro e w' ⟨fa, ba, fc, bc, he, hO, hP, hB⟩
    have e1 : (w.alloc (.cells #[.int .i64 0, .string ⟨#[]⟩, .int .i64 0, .slice none 0 0, .slice none 0 0] 40)).heap.size = w.heap.size + 1 := by simp
    rw [e1] at hO hP
    exact ⟨fa, ba, fc, bc, he, hO, hP, U0.trans (hB.mono (by simp)), tblk_below (tblk_new _ _) hB⟩
  have HQ : Hid (respQ b method ended = respOf (rresQ b method ended) ended) := rfl
  clear hs hk hM hlen U0
  generalize respQ b method ended = Q at *
  generalize rresQ b method ended = R at *
  obtain ⟨code, reason, mi, fs, body, n, ok⟩ := R
  unfold rpV at HH
  simp only at HH
  generalize b.length = bl at *
  by_cases h0 : n = 0
  · subst h0
    have HE : Hid (Q = rpNo (ok && !ended)) := by
      rw [Hid, HQ.out]
      unfold respOf
      rw [if_pos rfl]
    clear HQ
    generalize fs.length = fl at *
    generalize body.length = xl at *
    cases ok <;> cases ended
    · go_enter Tryz.func32, Tryz.ntmps32
      go_wp2_with fail
      refine HH.out.mono ?_
      rintro e w1 ⟨fa, ba, fc, bc, rfl, _, _, B1, hg1⟩
      have B2 := B1.alloc B1.size (.cells #[.int .i64 code, .string reason, .int .i64 mi, .slice fa fl fc, .slice ba xl bc] 40)
      have hg2 := tblk_below hg1 ((Below.refl _ _).alloc (Nat.le_refl _) (.cells #[.int .i64 code, .string reason, .int .i64 mi, .slice fa fl fc, .slice ba xl bc] 40))
      have HB2 : Hid _ := five_below (.int .i64 0) (.string ⟨#[]⟩) (.int .i64 0) (.slice none 0 0) (.slice none 0 0) B2 (Nat.le_refl _)
      unfold five at HB2
      clear B1 B2 hg1 HH
      have HW := five_cells hg2 (.int .i64 0) (.string ⟨#[]⟩) (.int .i64 0) (.slice none 0 0) (.slice none 0 0)
      have a0 := tblk_cell (i := 0) hg2 rfl
      have z0 := lblk_z (i := 0) hg2
      have a1 := tblk_cell (i := 1) hg2 rfl
      have z1 := lblk_z (i := 1) hg2
      have a2 := tblk_cell (i := 2) hg2 rfl
      have z2 := lblk_z (i := 2) hg2
      have a3 := tblk_cell (i := 3) hg2 rfl
      have z3 := lblk_z (i := 3) hg2
      have a4 := tblk_cell (i := 4) hg2 rfl
      have z4 := lblk_z (i := 4) hg2
      have r0 := tblk_cell (i := 0) HW rfl
      have r1 := tblk_cell (i := 1) HW rfl
      have r2 := tblk_cell (i := 2) HW rfl
      have r3 := tblk_cell (i := 3) HW rfl
      have r4 := tblk_cell (i := 4) HW rfl
      unfold five at r0 r1 r2 r3 r4
      clear HW hg2
      go_wp2
      refine bodyPost_ret (v := .tuple #[.agg #[.int .i64 0, .string ⟨#[]⟩, .int .i64 0, .slice none 0 0, .slice none 0 0], .int .i64 0, .bool false]) (by simp [results, Tryz.results32, go_sem, r0, r1, r2, r3, r4]) rfl ?_
      rw [HE.out]
      exact rpNo_ok HB2.out
    · go_enter Tryz.func32, Tryz.ntmps32
      go_wp2_with fail
      refine HH.out.mono ?_
      rintro e w1 ⟨fa, ba, fc, bc, rfl, _, _, B1, hg1⟩
      have B2 := B1.alloc B1.size (.cells #[.int .i64 code, .string reason, .int .i64 mi, .slice fa fl fc, .slice ba xl bc] 40)
      have hg2 := tblk_below hg1 ((Below.refl _ _).alloc (Nat.le_refl _) (.cells #[.int .i64 code, .string reason, .int .i64 mi, .slice fa fl fc, .slice ba xl bc] 40))
      have HB2 : Hid _ := five_below (.int .i64 0) (.string ⟨#[]⟩) (.int .i64 0) (.slice none 0 0) (.slice none 0 0) B2 (Nat.le_refl _)
      unfold five at HB2
      clear B1 B2 hg1 HH
      have HW := five_cells hg2 (.int .i64 0) (.string ⟨#[]⟩) (.int .i64 0) (.slice none 0 0) (.slice none 0 0)
      have a0 := tblk_cell (i := 0) hg2 rfl
      have z0 := lblk_z (i := 0) hg2
      have a1 := tblk_cell (i := 1) hg2 rfl
      have z1 := lblk_z (i := 1) hg2
      have a2 := tblk_cell (i := 2) hg2 rfl
      have z2 := lblk_z (i := 2) hg2
      have a3 := tblk_cell (i := 3) hg2 rfl
      have z3 := lblk_z (i := 3) hg2
      have a4 := tblk_cell (i := 4) hg2 rfl
      have z4 := lblk_z (i := 4) hg2
      have r0 := tblk_cell (i := 0) HW rfl
      have r1 := tblk_cell (i := 1) HW rfl
      have r2 := tblk_cell (i := 2) HW rfl
      have r3 := tblk_cell (i := 3) HW rfl
      have r4 := tblk_cell (i := 4) HW rfl
      unfold five at r0 r1 r2 r3 r4
      clear HW hg2
      go_wp2
      refine bodyPost_ret (v := .tuple #[.agg #[.int .i64 0, .string ⟨#[]⟩, .int .i64 0, .slice none 0 0, .slice none 0 0], .int .i64 0, .bool false]) (by simp [results, Tryz.results32, go_sem, r0, r1, r2, r3, r4]) rfl ?_
      rw [HE.out]
      exact rpNo_ok HB2.out
    · go_enter Tryz.func32, Tryz.ntmps32
      go_wp2_with fail
      refine HH.out.mono ?_
      rintro e w1 ⟨fa, ba, fc, bc, rfl, _, _, B1, hg1⟩
      have B2 := B1.alloc B1.size (.cells #[.int .i64 code, .string reason, .int .i64 mi, .slice fa fl fc, .slice ba xl bc] 40)
      have hg2 := tblk_below hg1 ((Below.refl _ _).alloc (Nat.le_refl _) (.cells #[.int .i64 code, .string reason, .int .i64 mi, .slice fa fl fc, .slice ba xl bc] 40))
      have HB2 : Hid _ := five_below (.int .i64 0) (.string ⟨#[]⟩) (.int .i64 0) (.slice none 0 0) (.slice none 0 0) B2 (Nat.le_refl _)
      unfold five at HB2
      clear B1 B2 hg1 HH
      have HW := five_cells hg2 (.int .i64 0) (.string ⟨#[]⟩) (.int .i64 0) (.slice none 0 0) (.slice none 0 0)
      have a0 := tblk_cell (i := 0) hg2 rfl
      have z0 := lblk_z (i := 0) hg2
      have a1 := tblk_cell (i := 1) hg2 rfl
      have z1 := lblk_z (i := 1) hg2
      have a2 := tblk_cell (i := 2) hg2 rfl
      have z2 := lblk_z (i := 2) hg2
      have a3 := tblk_cell (i := 3) hg2 rfl
      have z3 := lblk_z (i := 3) hg2
      have a4 := tblk_cell (i := 4) hg2 rfl
      have z4 := lblk_z (i := 4) hg2
      have r0 := tblk_cell (i := 0) HW rfl
      have r1 := tblk_cell (i := 1) HW rfl
      have r2 := tblk_cell (i := 2) HW rfl
      have r3 := tblk_cell (i := 3) HW rfl
      have r4 := tblk_cell (i := 4) HW rfl
      unfold five at r0 r1 r2 r3 r4
      clear HW hg2
      go_wp2
      refine bodyPost_ret (v := .tuple #[.agg #[.int .i64 0, .string ⟨#[]⟩, .int .i64 0, .slice none 0 0, .slice none 0 0], .int .i64 0, .bool true]) (by simp [results, Tryz.results32, go_sem, r0, r1, r2, r3, r4]) rfl ?_
      rw [HE.out]
      exact rpNo_ok HB2.out
    · go_enter Tryz.func32, Tryz.ntmps32
      go_wp2_with fail
      refine HH.out.mono ?_
      rintro e w1 ⟨fa, ba, fc, bc, rfl, _, _, B1, hg1⟩
      have B2 := B1.alloc B1.size (.cells #[.int .i64 code, .string reason, .int .i64 mi, .slice fa fl fc, .slice ba xl bc] 40)
      have hg2 := tblk_below hg1 ((Below.refl _ _).alloc (Nat.le_refl _) (.cells #[.int .i64 code, .string reason, .int .i64 mi, .slice fa fl fc, .slice ba xl bc] 40))
      have HB2 : Hid _ := five_below (.int .i64 0) (.string ⟨#[]⟩) (.int .i64 0) (.slice none 0 0) (.slice none 0 0) B2 (Nat.le_refl _)
      unfold five at HB2
      clear B1 B2 hg1 HH
      have HW := five_cells hg2 (.int .i64 0) (.string ⟨#[]⟩) (.int .i64 0) (.slice none 0 0) (.slice none 0 0)
      have a0 := tblk_cell (i := 0) hg2 rfl
      have z0 := lblk_z (i := 0) hg2
      have a1 := tblk_cell (i := 1) hg2 rfl
      have z1 := lblk_z (i := 1) hg2
      have a2 := tblk_cell (i := 2) hg2 rfl
      have z2 := lblk_z (i := 2) hg2
      have a3 := tblk_cell (i := 3) hg2 rfl
      have z3 := lblk_z (i := 3) hg2
      have a4 := tblk_cell (i := 4) hg2 rfl
      have z4 := lblk_z (i := 4) hg2
      have r0 := tblk_cell (i := 0) HW rfl
      have r1 := tblk_cell (i := 1) HW rfl
      have r2 := tblk_cell (i := 2) HW rfl
      have r3 := tblk_cell (i := 3) HW rfl
      have r4 := tblk_cell (i := 4) HW rfl
      unfold five at r0 r1 r2 r3 r4
      clear HW hg2
      go_wp2
      refine bodyPost_ret (v := .tuple #[.agg #[.int .i64 0, .string ⟨#[]⟩, .int .i64 0, .slice none 0 0, .slice none 0 0], .int .i64 0, .bool false]) (by simp [results, Tryz.results32, go_sem, r0, r1, r2, r3, r4]) rfl ?_
      rw [HE.out]
      exact rpNo_ok HB2.out
  · have hn' : ¬ ((n : Nat) : Int) = 0 := by omega
    have hn'' : (((n : Nat) : Int) == 0) = false := by simpa using hn'
    have HE : Hid (Q = ⟨code, reason, mi, fs, body, n, true⟩) := by
      rw [Hid, HQ.out]
      unfold respOf
      rw [if_neg h0]
    clear HQ h0
    generalize hxl : body.length = xl at *
    generalize hfl : fs.length = fl at *
    have HXL : Hid (body.length = xl) := hxl
    have HFL : Hid (fs.length = fl) := hfl
    clear hxl hfl
    go_enter Tryz.func32, Tryz.ntmps32
    go_wp2_with fail
    refine HH.out.mono ?_
    rintro e w1 ⟨fa, ba, fc, bc, rfl, O1, P1, B1, hg1⟩
    have U2 : Below w1.heap.size w1 (w1.alloc (.cells #[.int .i64 code, .string reason, .int .i64 mi, .slice fa fl fc, .slice ba xl bc] 40)) := (Below.refl _ _).alloc (Nat.le_refl _) _
    have B2 := B1.alloc B1.size (.cells #[.int .i64 code, .string reason, .int .i64 mi, .slice fa fl fc, .slice ba xl bc] 40)
    have hg2 := tblk_below hg1 U2
    have hr2 := tblk_new w1 (.cells #[.int .i64 code, .string reason, .int .i64 mi, .slice fa fl fc, .slice ba xl bc] 40)
    have O2 := O1.keep U2
    have P2 := P1.keep U2
    have hsp : w.heap.size < w1.heap.size := heap_lt hg1
    have HB5 : Hid _ := five_below (.int .i64 code) (.string reason) (.int .i64 mi) (.slice fa fl fc) (.slice ba xl bc) B2 (Nat.le_refl _)
    have HO5 : Hid (OwnF w.heap.size (five (w1.alloc (.cells #[.int .i64 code, .string reason, .int .i64 mi, .slice fa fl fc, .slice ba xl bc] 40)) w.heap.size (.int .i64 code) (.string reason) (.int .i64 mi) (.slice fa fl fc) (.slice ba xl bc)) (.slice fa fl fc) fs) := (O2.away (fun k hk => five_away (by omega))).mono (by omega)
    have HP5 : Hid (Own w.heap.size (five (w1.alloc (.cells #[.int .i64 code, .string reason, .int .i64 mi, .slice fa fl fc, .slice ba xl bc] 40)) w.heap.size (.int .i64 code) (.string reason) (.int .i64 mi) (.slice fa fl fc) (.slice ba xl bc)) (.slice ba xl bc) body) := (P2.kept (fun k h1 h2 => five_away (by omega))).mono (by omega)
    unfold five at HB5 HO5 HP5
    have b0 := tblk_cell (i := 0) hr2 rfl
    have b1 := tblk_cell (i := 1) hr2 rfl
    have b2 := tblk_cell (i := 2) hr2 rfl
    have b3 := tblk_cell (i := 3) hr2 rfl
    have b4 := tblk_cell (i := 4) hr2 rfl
    clear HH B1 B2 hg1 hr2 O1 O2 P1 P2 U2 hsp
    have HW := five_cells hg2 (.int .i64 code) (.string reason) (.int .i64 mi) (.slice fa fl fc) (.slice ba xl bc)
    have a0 := tblk_cell (i := 0) hg2 rfl
    have z0 := lblk_z (i := 0) hg2
    have a1 := tblk_cell (i := 1) hg2 rfl
    have z1 := lblk_z (i := 1) hg2
    have a2 := tblk_cell (i := 2) hg2 rfl
    have z2 := lblk_z (i := 2) hg2
    have a3 := tblk_cell (i := 3) hg2 rfl
    have z3 := lblk_z (i := 3) hg2
    have a4 := tblk_cell (i := 4) hg2 rfl
    have z4 := lblk_z (i := 4) hg2
    have r0 := tblk_cell (i := 0) HW rfl
    have r1 := tblk_cell (i := 1) HW rfl
    have r2 := tblk_cell (i := 2) HW rfl
    have r3 := tblk_cell (i := 3) HW rfl
    have r4 := tblk_cell (i := 4) HW rfl
    unfold five at r0 r1 r2 r3 r4
    clear HW hg2
    go_wp2
    refine bodyPost_ret (v := .tuple #[.agg #[.int .i64 code, .string reason, .int .i64 mi, .slice fa fl fc, .slice ba xl bc], .int .i64 (n : Nat), .bool true]) (by simp [results, Tryz.results32, go_sem, r0, r1, r2, r3, r4]) rfl ?_
    rw [HE.out]
    obtain rfl := HXL.out
    obtain rfl := HFL.out
    exact ⟨fa, ba, fc, bc, rfl, HO5.out, HP5.out, HB5.out⟩
end Go.Proofs.YtajfjjmabncldaaGreatDoor

/- Two lists of bytes, one behind the other, in new memory. -/
namespace Go.Proofs.YtajfjjmabncldaaGreatDoor
open Go.RowKit
set_option linter.unusedVariables false

/-- Two lists of bytes, one behind the other, in new memory. -/
theorem two_src {w : World} {kb kc len cap lenc capc : Nat} {a ac : Option Addr} {b c : List UInt8} (hb : Src w kb (.slice a len cap) b) (hkb : 0 < b.length → kb < w.heap.size) (hc : Src w kc (.slice ac lenc capc) c) (hkc : 0 < c.length → kc < w.heap.size) (hnb : a = none → cap = 0) (hnc : ac = none → capc = 0) (hsum : b.length + c.length ≤ 140737488355328) :
    ∃ v2 w2 g3 n3 c3 w3, (Builtin.append_ #[23, 23] 23 #[.slice (some ⟨w.heap.size, 0, none⟩) 0 0, .slice a len cap]).run Tryz.prog (w.alloc (.cells #[] 5)) = .ok v2 w2 ∧
      (Builtin.append_ #[23, 23] 23 #[v2, .slice ac lenc capc]).run Tryz.prog w2 = .ok (.slice (some ⟨g3, 0, none⟩) n3 c3) w3 ∧ Src w3 g3 (.slice (some ⟨g3, 0, none⟩) n3 c3) (b ++ c) ∧ w.heap.size ≤ g3 ∧ g3 < w3.heap.size ∧ Below w.heap.size w w3 := by
  have BA : Below w.heap.size w (w.alloc (.cells #[] 5)) := (Below.refl _ _).alloc (Nat.le_refl _) _
  have S := hb.keep hkb BA
  have T := hc.keep hkc BA
  obtain ⟨v2, w2, g2, r2, A2, hg2, K2⟩ := acc_append (Acc.empty w) S hnb (by simp; omega)
  have B2 : Below w.heap.size w w2 := BA.trans (K2.below BA.size (fun k hk e => by omega))
  have hw : w.heap.size < (w.alloc (.cells #[] 5)).heap.size := by simp
  have T2 : Src w2 kc (.slice ac lenc capc) c := hc.keep hkc B2
  obtain ⟨v3, w3, g3, r3, A3, hg3, K3⟩ := acc_append A2 T2 hnc (by simp; omega)
  have hg2' : w.heap.size ≤ g2 := by omega
  have hk2 := K2.size
  obtain ⟨c3, rfl⟩ := A3.form
  exact ⟨v2, w2, g3, _, c3, w3, r2, r3, A3.src, by omega, A3.lt, B2.trans (K3.below B2.size (fun k hk e => by omega))⟩
end Go.Proofs.YtajfjjmabncldaaGreatDoor
