/- HttpHeads walked. -/
import Derived.Test.YthbjdbookiejeabGreatDoorHhA
import Derived.Test.YthbjdbookiejeabGreatDoorHtK
import Derived.Test.YthbjdbookiejeabGreatDoorHtS
namespace Go.Proofs.YthbjdbookiejeabGreatDoor
open Go.RowKit
set_option linter.unusedVariables false

set_option maxRecDepth 100000 in
set_option maxHeartbeats 4000000 in
theorem heads_walk (kb len cap : Nat) (a : Option Addr) (b : List UInt8) (w : World) (hs : Src w kb (.slice a len cap) b) (hk : 0 < b.length → kb < w.heap.size) (hL : Lv w) :
    Calls Tryz.prog 3 #[.slice a len cap] w fun e w' => e = .returned (.bool true) ∧ Below w.heap.size w w' := by
  have HA : Hid (Calls Tryz.prog 9 #[] w fun e w' => e = .returned (.bool true) ∧ Below w.heap.size w w') := asking_any w hL
  have hl := hs.len
  by_cases hbig : 4000 < len
  · have hb2 : (4000 : Int) < (len : Int) := by omega
    clear hs hk hL hl
    go_enter Tryz.func3, Tryz.ntmps3
    go_wp2_with fail
    refine HA.out.mono ?_
    rintro e w1 ⟨rfl, B1⟩
    go_wp2
    go_ret
    exact ⟨rfl, B1⟩
  · have hb2 : ¬ (4000 : Int) < (len : Int) := by omega
    obtain ⟨hl1, hl2, hl3⟩ := hl
    subst hl1
    unfold maxLen at hl3
    have HH : Hid (∀ W, Below w.heap.size w W → Calls Tryz.prog 10 #[.slice a b.length cap] W (HeadR W (headQ b))) := fun W B => head_any b kb cap a W (hs.keep hk B) (fun q => Nat.lt_of_lt_of_le (hk q) B.size) (hL.below B).max
    have HR : Hid (∀ W, Below w.heap.size w W → Calls Tryz.prog 11 #[.slice a b.length cap] W (ReqR W (reqQ b))) := fun W B => hreq_any b kb cap a W (hs.keep hk B) (fun q => Nat.lt_of_lt_of_le (hk q) B.size) (hL.below B).max (by omega)
    have hC := reqQ_cases b
    have hOK := headQ_ok b
    have hE := fun h => headQ_end (b := b) h
    generalize reqQ b = Q at *
    generalize hHd : headQ b = H at *
    clear hHd hL
    obtain ⟨m, t, mi, fs, n, st⟩ := H
    unfold HeadR hdV at HH
    simp only at HH hC hE hOK
    rcases hC with ⟨h0, hQ⟩ | ⟨h0, hst, hQ⟩
    · subst hQ h0
      have hfs : fs = [] := by have k := hOK.no rfl; injection k
      subst hfs
      unfold ReqR rdV rdNo at HR
      simp only at HR
      clear hOK hE hs hk hl2 hl3
      generalize b.length = bl at *
      by_cases hs0 : st = 0
      · subst hs0
        go_enter Tryz.func3, Tryz.ntmps3
        go_wp2_with fail
        refine HA.out.mono ?_
        rintro e w1 ⟨rfl, B1⟩
        go_wp2_with fail
        refine (HH.out _ B1).mono ?_
        rintro e w2 ⟨fa, fc, rfl, O2, B2⟩
        have D2 := B1.trans (B2.mono B1.size)
        have U3 : Below w2.heap.size w2 (w2.alloc (.cells #[.string m, .string t, .int .i64 mi, .slice fa 0 fc, .slice none 0 0] 26)) := (Below.refl _ _).alloc (Nat.le_refl _) _
        have D3 := D2.alloc D2.size (.cells #[.string m, .string t, .int .i64 mi, .slice fa 0 fc, .slice none 0 0] 26)
        have hr3 := tblk_new w2 (.cells #[.string m, .string t, .int .i64 mi, .slice fa 0 fc, .slice none 0 0] 26)
        clear HA HH B1 B2 D2 O2 U3
        go_wp2_with fail
        generalize w2.alloc (.cells #[.string m, .string t, .int .i64 mi, .slice fa 0 fc, .slice none 0 0] 26) = w3 at *
        generalize w2.heap.size = p at *
        refine (HR.out _ D3).mono ?_
        rintro e w4 ⟨ga, gb, gc, gd, rfl, _, _, B4⟩
        have U4 : Below w3.heap.size w3 (w4.alloc (.cells #[.string ⟨#[]⟩, .string ⟨#[]⟩, .int .i64 0, .slice ga 0 gc, .slice gb 0 gd] 26)) := B4.alloc B4.size _
        have D4 := D3.trans (U4.mono D3.size)
        have hr4 := tblk_below hr3 U4
        clear HR D3 B4 hr3 U4
        go_wp2
        go_ret
        exact ⟨rfl, D4⟩
      · have hs1 : (st != 0) = true := by simpa using hs0
        go_enter Tryz.func3, Tryz.ntmps3
        go_wp2_with fail
        refine HA.out.mono ?_
        rintro e w1 ⟨rfl, B1⟩
        go_wp2_with fail
        refine (HH.out _ B1).mono ?_
        rintro e w2 ⟨fa, fc, rfl, O2, B2⟩
        have D2 := B1.trans (B2.mono B1.size)
        have U3 : Below w2.heap.size w2 (w2.alloc (.cells #[.string m, .string t, .int .i64 mi, .slice fa 0 fc, .slice none 0 0] 26)) := (Below.refl _ _).alloc (Nat.le_refl _) _
        have D3 := D2.alloc D2.size (.cells #[.string m, .string t, .int .i64 mi, .slice fa 0 fc, .slice none 0 0] 26)
        have hr3 := tblk_new w2 (.cells #[.string m, .string t, .int .i64 mi, .slice fa 0 fc, .slice none 0 0] 26)
        clear HA HH B1 B2 D2 O2 U3
        go_wp2_with fail
        generalize w2.alloc (.cells #[.string m, .string t, .int .i64 mi, .slice fa 0 fc, .slice none 0 0] 26) = w3 at *
        generalize w2.heap.size = p at *
        refine (HR.out _ D3).mono ?_
        rintro e w4 ⟨ga, gb, gc, gd, rfl, _, _, B4⟩
        have U4 : Below w3.heap.size w3 (w4.alloc (.cells #[.string ⟨#[]⟩, .string ⟨#[]⟩, .int .i64 0, .slice ga 0 gc, .slice gb 0 gd] 26)) := B4.alloc B4.size _
        have D4 := D3.trans (U4.mono D3.size)
        have hr4 := tblk_below hr3 U4
        clear HR D3 B4 hr3 U4
        go_wp2
        go_ret
        exact ⟨rfl, D4⟩
    · subst hst
      obtain ⟨j, hj, hd⟩ := hE h0
      have hn2048 : n ≤ 2048 := hOK.le.2
      have hnl : n ≤ b.length := hOK.le.1
      clear hE hOK
      have hn0 : ¬ ((n : Nat) : Int) = 0 := by omega
      have hn1 : (((n : Nat) : Int) == 0) = false := by simpa using hn0
      have hsub : ((n : Nat) : Int) - 4 = (j : Int) := by omega
      have hn3 : ¬ (2048 : Int) < ((n : Nat) : Int) := by omega
      have hjn : j ≤ n := by omega
      have HN : Hid (n = j + 4) := hj
      have HCV : Hid (∀ W, Below w.heap.size w W → ∀ (a' : Option Addr), (j < cap → a' = a.map (fun x => x.add j)) → (convert 22 9 (.slice a' (n - j) (cap - j))).run Tryz.prog W = .ok (.string ⟨#[13, 10, 13, 10]⟩) W) := fun W B a' ha' => by
        have k := ((hs.keep hk B).take (m := n) hnl).cut (m := j) (by rw [List.length_take]; omega) ha'
        rw [hd] at k
        have e := conv_back k (by omega)
        exact e
      have hjc : j < cap := by omega
      rcases hQ with ⟨s, hQ, hs3⟩ | ⟨x, q, hQ, hqn, hq0⟩
      · subst hQ
        unfold ReqR rdV rdNo at HR
        simp only at HR
        clear hs hk hj hd h0
        generalize b.length = bl at *
        rcases hs3 with rfl | rfl | rfl
        · go_enter Tryz.func3, Tryz.ntmps3
          go_wp2_with fail
          refine HA.out.mono ?_
          rintro e w1 ⟨rfl, B1⟩
          go_wp2_with fail
          refine (HH.out _ B1).mono ?_
          rintro e w2 ⟨fa, fc, rfl, O2, B2⟩
          have D2 := B1.trans (B2.mono B1.size)
          have U3 : Below w2.heap.size w2 (w2.alloc (.cells #[.string m, .string t, .int .i64 mi, .slice fa fs.length fc, .slice none 0 0] 26)) := (Below.refl _ _).alloc (Nat.le_refl _) _
          have D3 := D2.alloc D2.size (.cells #[.string m, .string t, .int .i64 mi, .slice fa fs.length fc, .slice none 0 0] 26)
          have hr3 := tblk_new w2 (.cells #[.string m, .string t, .int .i64 mi, .slice fa fs.length fc, .slice none 0 0] 26)
          clear HA HH B1 B2 D2 O2 U3
          go_wp2_with fail
          generalize w2.alloc (.cells #[.string m, .string t, .int .i64 mi, .slice fa fs.length fc, .slice none 0 0] 26) = w3 at *
          generalize w2.heap.size = p at *
          refine (HR.out _ D3).mono ?_
          rintro e w4 ⟨ga, gb, gc, gd, rfl, _, _, B4⟩
          have U4 : Below w3.heap.size w3 (w4.alloc (.cells #[.string ⟨#[]⟩, .string ⟨#[]⟩, .int .i64 0, .slice ga 0 gc, .slice gb 0 gd] 26)) := B4.alloc B4.size _
          have D4 := D3.trans (U4.mono D3.size)
          have hr4 := tblk_below hr3 U4
          clear HR D3 B4 hr3 U4
          have d4 := tblk_cell (i := 4) hr4 rfl
          have hcv := HCV.out _ D4 _ (fun _ => rfl)
          clear HCV hr4
          go_wp2
          go_ret
          exact ⟨rfl, D4⟩
        · go_enter Tryz.func3, Tryz.ntmps3
          go_wp2_with fail
          refine HA.out.mono ?_
          rintro e w1 ⟨rfl, B1⟩
          go_wp2_with fail
          refine (HH.out _ B1).mono ?_
          rintro e w2 ⟨fa, fc, rfl, O2, B2⟩
          have D2 := B1.trans (B2.mono B1.size)
          have U3 : Below w2.heap.size w2 (w2.alloc (.cells #[.string m, .string t, .int .i64 mi, .slice fa fs.length fc, .slice none 0 0] 26)) := (Below.refl _ _).alloc (Nat.le_refl _) _
          have D3 := D2.alloc D2.size (.cells #[.string m, .string t, .int .i64 mi, .slice fa fs.length fc, .slice none 0 0] 26)
          have hr3 := tblk_new w2 (.cells #[.string m, .string t, .int .i64 mi, .slice fa fs.length fc, .slice none 0 0] 26)
          clear HA HH B1 B2 D2 O2 U3
          go_wp2_with fail
          generalize w2.alloc (.cells #[.string m, .string t, .int .i64 mi, .slice fa fs.length fc, .slice none 0 0] 26) = w3 at *
          generalize w2.heap.size = p at *
          refine (HR.out _ D3).mono ?_
          rintro e w4 ⟨ga, gb, gc, gd, rfl, _, _, B4⟩
          have U4 : Below w3.heap.size w3 (w4.alloc (.cells #[.string ⟨#[]⟩, .string ⟨#[]⟩, .int .i64 0, .slice ga 0 gc, .slice gb 0 gd] 26)) := B4.alloc B4.size _
          have D4 := D3.trans (U4.mono D3.size)
          have hr4 := tblk_below hr3 U4
          clear HR D3 B4 hr3 U4
          have d4 := tblk_cell (i := 4) hr4 rfl
          have hcv := HCV.out _ D4 _ (fun _ => rfl)
          clear HCV hr4
          go_wp2
          go_ret
          exact ⟨rfl, D4⟩
        · go_enter Tryz.func3, Tryz.ntmps3
          go_wp2_with fail
          refine HA.out.mono ?_
          rintro e w1 ⟨rfl, B1⟩
          go_wp2_with fail
          refine (HH.out _ B1).mono ?_
          rintro e w2 ⟨fa, fc, rfl, O2, B2⟩
          have D2 := B1.trans (B2.mono B1.size)
          have U3 : Below w2.heap.size w2 (w2.alloc (.cells #[.string m, .string t, .int .i64 mi, .slice fa fs.length fc, .slice none 0 0] 26)) := (Below.refl _ _).alloc (Nat.le_refl _) _
          have D3 := D2.alloc D2.size (.cells #[.string m, .string t, .int .i64 mi, .slice fa fs.length fc, .slice none 0 0] 26)
          have hr3 := tblk_new w2 (.cells #[.string m, .string t, .int .i64 mi, .slice fa fs.length fc, .slice none 0 0] 26)
          clear HA HH B1 B2 D2 O2 U3
          go_wp2_with fail
          generalize w2.alloc (.cells #[.string m, .string t, .int .i64 mi, .slice fa fs.length fc, .slice none 0 0] 26) = w3 at *
          generalize w2.heap.size = p at *
          refine (HR.out _ D3).mono ?_
          rintro e w4 ⟨ga, gb, gc, gd, rfl, _, _, B4⟩
          have U4 : Below w3.heap.size w3 (w4.alloc (.cells #[.string ⟨#[]⟩, .string ⟨#[]⟩, .int .i64 0, .slice ga 0 gc, .slice gb 0 gd] 26)) := B4.alloc B4.size _
          have D4 := D3.trans (U4.mono D3.size)
          have hr4 := tblk_below hr3 U4
          clear HR D3 B4 hr3 U4
          have d4 := tblk_cell (i := 4) hr4 rfl
          have hcv := HCV.out _ D4 _ (fun _ => rfl)
          clear HCV hr4
          go_wp2
          go_ret
          exact ⟨rfl, D4⟩
      · subst hQ
        unfold ReqR rdV at HR
        simp only at HR
        clear hj hd h0
        have hq1 : ¬ ((q : Nat) : Int) = 0 := by omega
        have hq2 : (((q : Nat) : Int) == 0) = false := by simpa using hq1
        have hq3 : ((n : Nat) : Int) ≤ ((q : Nat) : Int) := by omega
        clear hqn hq0
        have HSR : Hid (∀ (W : World) (a1 a2 b1 b2 : Option Addr) (c1 c2 d1 d2 : Nat) , OwnF w.heap.size W (.slice a1 fs.length c1) fs → OwnF w.heap.size W (.slice a2 fs.length c2) fs → Own w.heap.size W (.slice b1 x.length d1) x → Own w.heap.size W (.slice b2 x.length d2) x → Calls Tryz.prog 12 #[.agg #[.string m, .string t, .int .i64 mi, .slice a1 fs.length c1, .slice b1 x.length d1], .agg #[.string m, .string t, .int .i64 mi, .slice a2 fs.length c2, .slice b2 x.length d2]] W fun e w' => e = .returned (.bool true) ∧ Below W.heap.size W w') := fun W a1 a2 b1 b2 c1 c2 d1 d2 f1 f2 s1 s2 => by
          obtain ⟨k1, S1, K1⟩ := s1.src
          obtain ⟨k2, S2, K2⟩ := s2.src
          exact samereq_eq m t mi fs x a1 a2 b1 b2 c1 c2 d1 d2 k1 k2 W f1.fds f2.fds S1 (fun q => (K1 q).2) S2 (fun q => (K2 q).2)
        clear hs hk
        generalize b.length = bl at *
        go_enter Tryz.func3, Tryz.ntmps3
        go_wp2_with fail
        refine HA.out.mono ?_
        rintro e w1 ⟨rfl, B1⟩
        go_wp2_with fail
        refine (HH.out _ B1).mono ?_
        rintro e w2 ⟨fa, fc, rfl, O2, B2⟩
        have D2 := B1.trans (B2.mono B1.size)
        have U3 : Below w2.heap.size w2 (w2.alloc (.cells #[.string m, .string t, .int .i64 mi, .slice fa fs.length fc, .slice none 0 0] 26)) := (Below.refl _ _).alloc (Nat.le_refl _) _
        have D3 := D2.alloc D2.size (.cells #[.string m, .string t, .int .i64 mi, .slice fa fs.length fc, .slice none 0 0] 26)
        have hr3 := tblk_new w2 (.cells #[.string m, .string t, .int .i64 mi, .slice fa fs.length fc, .slice none 0 0] 26)
        have hszw := D2.size
        have hsz1 := B1.size
        have HO2 : Hid (OwnF w1.heap.size w2 (.slice fa fs.length fc) fs) := O2
        have hk3 : ∀ k, k < w2.heap.size → (w2.alloc (.cells #[.string m, .string t, .int .i64 mi, .slice fa fs.length fc, .slice none 0 0] 26)).heap[k]? = w2.heap[k]? := fun k hk => U3.block k hk
        clear HA HH B1 B2 D2 O2 U3
        go_wp2_with fail
        generalize w2.alloc (.cells #[.string m, .string t, .int .i64 mi, .slice fa fs.length fc, .slice none 0 0] 26) = w3 at *
        have hp3 := heap_lt hr3
        have hpw : w.heap.size ≤ w2.heap.size := hszw
        generalize hpd : w2.heap.size = p at *
        have HPD : Hid (w2.heap.size = p) := hpd
        clear hpd
        refine (HR.out _ D3).mono ?_
        rintro e w4 ⟨ga, gb, gc, gd, rfl, G4, P4, B4⟩
        have U4 : Below w3.heap.size w3 (w4.alloc (.cells #[.string m, .string t, .int .i64 mi, .slice ga fs.length gc, .slice gb x.length gd] 26)) := B4.alloc B4.size _
        have U5 : Below w4.heap.size w4 (w4.alloc (.cells #[.string m, .string t, .int .i64 mi, .slice ga fs.length gc, .slice gb x.length gd] 26)) := (Below.refl _ _).alloc (Nat.le_refl _) _
        have D4 := D3.trans (U4.mono D3.size)
        have hr4 := tblk_below hr3 U4
        have hq4 := tblk_new w4 (.cells #[.string m, .string t, .int .i64 mi, .slice ga fs.length gc, .slice gb x.length gd] 26)
        have G5 := G4.keep U5
        have P5 := P4.keep U5
        have hpq : ¬ w4.heap.size = p := by have := B4.size; omega
        have hs34 : w3.heap.size ≤ w4.heap.size := B4.size
        clear HR B4 hr3 U5 G4 P4
        generalize hxl : x.length = xl at *
        generalize hfl : fs.length = fl at *
        have HXL : Hid (x.length = xl) := hxl
        have HFL : Hid (fs.length = fl) := hfl
        clear hxl hfl
        have d4 := tblk_cell (i := 4) hr4 rfl
        have z4 := lblk_z (i := 4) hr4
        have e4 := tblk_cell (i := 4) hq4 rfl
        have hcv := HCV.out _ D4 _ (fun _ => rfl)
        have hr6 := field4 (v := .slice gb xl gd) hr4
        have hq6 : ((w4.alloc (.cells #[.string m, .string t, .int .i64 mi, .slice ga fl gc, .slice gb xl gd] 26)).setCell ⟨p, 4, none⟩ (.slice gb xl gd)).heap[w4.heap.size]? = some (.cells #[.string m, .string t, .int .i64 mi, .slice ga fl gc, .slice gb xl gd] 26) := (set_away hpq).trans hq4
        have D6 : Below w.heap.size w ((w4.alloc (.cells #[.string m, .string t, .int .i64 mi, .slice ga fl gc, .slice gb xl gd] 26)).setCell ⟨p, 4, none⟩ (.slice gb xl gd)) := D4.setCell (p := ⟨p, 4, none⟩) hpw _
        have F1 : Hid (OwnF w.heap.size ((w4.alloc (.cells #[.string m, .string t, .int .i64 mi, .slice ga fl gc, .slice gb xl gd] 26)).setCell ⟨p, 4, none⟩ (.slice gb xl gd)) (.slice fa fl fc) fs) := (OwnF.kept HO2.out (fun k h1 h2 => (set_away (by have := HPD.out; omega)).trans ((U4.block k (by have := HPD.out; omega)).trans (hk3 k (by have := HPD.out; omega))))).mono hsz1
        have F2 : Hid (OwnF w.heap.size ((w4.alloc (.cells #[.string m, .string t, .int .i64 mi, .slice ga fl gc, .slice gb xl gd] 26)).setCell ⟨p, 4, none⟩ (.slice gb xl gd)) (.slice ga fl gc) fs) := (OwnF.kept G5 (fun k h1 h2 => set_away (by omega))).mono D3.size
        have F3 : Hid (Own w.heap.size ((w4.alloc (.cells #[.string m, .string t, .int .i64 mi, .slice ga fl gc, .slice gb xl gd] 26)).setCell ⟨p, 4, none⟩ (.slice gb xl gd)) (.slice gb xl gd) x) := (Own.kept P5 (fun k h1 h2 => set_away (by omega))).mono D3.size
        have x0 := tblk_cell (i := 0) hr6 rfl
        have x1 := tblk_cell (i := 1) hr6 rfl
        have x2 := tblk_cell (i := 2) hr6 rfl
        have x3 := tblk_cell (i := 3) hr6 rfl
        have x4 := tblk_cell (i := 4) hr6 rfl
        have y0 := tblk_cell (i := 0) hq6 rfl
        have y1 := tblk_cell (i := 1) hq6 rfl
        have y2 := tblk_cell (i := 2) hq6 rfl
        have y3 := tblk_cell (i := 3) hq6 rfl
        have y4 := tblk_cell (i := 4) hq6 rfl
        clear hr4 hr6 hq4 hq6 G5 P5 HO2 hk3 hs34 hsz1 hszw hp3 hpw hpq U4 D3
        go_wp2_with fail
        clear x0 x1 x2 x3 x4 y0 y1 y2 y3 y4 d4 z4 e4 hcv
        refine (HSR.out _ fa ga gb gb fc gc gd gd F1.out F2.out F3.out F3.out).mono ?_
        rintro e w7 ⟨rfl, B7⟩
        have D7 := D6.trans (B7.mono D6.size)
        go_wp2
        go_ret
        exact ⟨rfl, D7⟩
end Go.Proofs.YthbjdbookiejeabGreatDoor
