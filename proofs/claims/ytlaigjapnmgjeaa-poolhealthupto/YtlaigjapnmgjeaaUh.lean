/- PoolHealth: its walk (written by uh.py). -/
import Derived.Test.YtlaigjapnmgjeaaUf
import Derived.Test.YtlaigjapnmgjeaaUg
import Derived.Test.YtlaigjapnmgjeaaHlI
import Derived.Test.YtlaigjapnmgjeaaHlD
import Derived.Deep.RegionHeld3
namespace Go.Proofs.Ytlaigjapnmgjeaa
open Go.RowKit
set_option linter.unusedVariables false

/-- Behind i calls. -/
def HDE (w : World) (h a b c mb i : Nat) (W : World) : Prop := ∃ n t f q am cm M at' ct T, n ≤ i ∧ HD w [] h a b c mb n t f q am cm M at' ct T W ∧ RH t f q M T n
theorem set1h_alloc (W : World) (p : Addr) (x : Value) (o : Obj) (h : p.block < W.heap.size) : (W.setCell p x).alloc o = (W.alloc o).setCell p x := by
  have : ∀ (f : Obj → Obj) (H : Array Obj) (b : Nat), b < H.size → (H.modify b f).push o = (H.push o).modify b f := by
    intro f H b hb
    refine Array.ext_getElem? fun i => ?_
    rw [Array.getElem?_push, Array.getElem?_modify, Array.getElem?_modify, Array.getElem?_push, Array.size_modify]
    by_cases e : i = H.size
    · rw [if_pos e, if_pos e, if_neg (by omega)]
    · rw [if_neg e, if_neg e]
  unfold World.setCell World.alloc
  simp only
  rw [this _ _ _ h]
theorem set2_alloc (W : World) (b : Nat) (x y : Value) (o : Obj) (h : b < W.heap.size) : ((W.setCell ⟨b, 0, none⟩ x).setCell ⟨b, 1, none⟩ y).alloc o = ((W.alloc o).setCell ⟨b, 0, none⟩ x).setCell ⟨b, 1, none⟩ y := by
  rw [set1h_alloc _ _ _ _ (by simp only [World.setCell, Array.size_modify]; exact h), set1h_alloc _ _ _ _ h]
theorem one_kept (V : World) (A : Obj) : ∀ p ∈ [(V.heap.size, A)], V.heap.size ≤ p.1 ∧ (V.alloc A).heap[p.1]? = some p.2 := by
  intro p hp
  rw [List.mem_singleton.1 hp]
  exact ⟨Nat.le_refl _, tblk_new _ _⟩
set_option maxRecDepth 100000 in
set_option maxHeartbeats 40000000 in
theorem health17_walk (ad : Option Addr) (len cap : Nat) (w : World) (hO : OpsP w ad len) (hA : ∀ b2 o2, ad = some ⟨b2, o2, none⟩ → ∀ i, i < len → ∀ s : KS, w.cell? ⟨b2, o2 + i * 8 + 2, none⟩ = some (.string s) → s.size ≤ 281474976710656) (hU : ∀ b2 o2, ad = some ⟨b2, o2, none⟩ → ∀ i, i < len → ∀ (u : KS) xa xl xc, w.cell? ⟨b2, o2 + i * 8 + 3, none⟩ = some (.string u) → w.cell? ⟨b2, o2 + i * 8 + 4, none⟩ = some (.slice xa xl xc) → u.size ≤ 281474976710656 ∧ (xl ≤ 1000 → ∃ xs : List KS, xs.length = xl ∧ Tx w xa xs)) : Calls Try.prog 4 #[.slice ad len cap] w fun e w' => e = .returned (.bool true) ∧ Below w.heap.size w w' := by
  obtain ⟨hl, hO⟩ := hO
  unfold maxLen at hl
  have HN := hidE (hlnew_any w)
  have HCAR := hidE (fun W => caring_any W)
  go_enter Try.func4, Try.ntmps4
  go_wp2_with fail
  refine HN.out.mono ?_
  rintro e w1 ⟨rfl, C1, B1⟩
  obtain ⟨h, hhe⟩ : ∃ h, h = w.heap.size + 3 := ⟨_, rfl⟩
  obtain ⟨a, hae⟩ : ∃ a, a = w.heap.size := ⟨_, rfl⟩
  obtain ⟨b, hbe⟩ : ∃ b, b = w.heap.size + 1 := ⟨_, rfl⟩
  obtain ⟨c, hce⟩ : ∃ c, c = w.heap.size + 2 := ⟨_, rfl⟩
  have HLO : Hid (w.heap.size ≤ h ∧ w.heap.size ≤ a ∧ w.heap.size ≤ b ∧ w.heap.size ≤ c) := ⟨by omega, by omega, by omega, by omega⟩
  rw [← hhe, ← hbe, ← hce] at C1
  have C1' : HL w1 h a b c 0 (fun _ => 0) (fun _ => 0) (fun _ => none) := by rw [hae]; exact C1
  rw [← hhe]
  have HC1 := hidE C1'
  have HB1 := hidE B1
  clear HN hhe hae hbe hce C1 C1' B1
  go_wp2_with fail
  refine (HCAR.out _).mono ?_
  rintro e w2 ⟨rfl, B2⟩
  have HC2 := hidE (HC1.out.keep B2)
  have HB2 : Hid (Below w.heap.size w w2) := HB1.out.trans (B2.mono HB1.out.size)
  clear HCAR HC1 HB1 B2
  rcases Nat.lt_or_ge 300 len with hlen | hlen
  · have h3 : (300 : Int) < (len : Int) := by omega
    clear HC2
    go_wp2
    go_ret
    exact ⟨rfl, HB2.out⟩
  · have h3 : decide ((300 : Int) < (len : Int)) = false := decide_eq_false (by omega)
    have HP0 := hidE (HD.start HC2.out HB2.out HLO.out)
    clear HC2 HB2 HLO
    obtain ⟨w4, hw4⟩ : ∃ w4, w4 = w2.alloc (.cells #[.slice none 0 0, .slice none 0 0] 57) := ⟨_, rfl⟩
    obtain ⟨mb, hmb⟩ : ∃ mb, mb = w2.heap.size := ⟨_, rfl⟩
    rw [← hw4, ← hmb] at HP0
    go_wp2_with fail
    rw [← hw4, ← hmb]
    clear hw4 hmb h3
    go_loopw [29] (fun vi wr => ∃ (i : Nat), i ≤ len ∧ vi = .int .i64 i ∧ Hid (HDE w h a b c mb i wr)) (fun vi _ => len - (intOf vi).toNat)
    case atStart => exact ⟨0, Nat.zero_le _, rfl, ⟨0, _, _, _, _, _, _, _, _, _, Nat.le_refl _, HP0.out, RH.new⟩⟩
    case round =>
      clear HP0
      obtain ⟨i, hi, rfl, HP⟩ := hrel
      by_cases hlt : i < len
      · obtain ⟨b2, o2, rfl, hb2, hc2⟩ := hO (by omega)
        obtain ⟨k, hh, s, hk, _, _, u, xa, xl, xc, nw, fl, co, hq1, hq2, hq3, g0, g1, g2, g3, g4, g5, g6, g7⟩ := hc2 i hlt
        obtain ⟨n, t, f, q, am, cm, M, at', ct, T, hni, HPD, HRH⟩ := HP.out
        have bel := HPD.be
        have d0 := (bel.cell (p := ⟨b2, o2 + i * 8, none⟩) hb2).trans g0
        have d1 := (bel.cell (p := ⟨b2, o2 + i * 8 + 1, none⟩) hb2).trans g1
        have d2 := (bel.cell (p := ⟨b2, o2 + i * 8 + 2, none⟩) hb2).trans g2
        have d3 := (bel.cell (p := ⟨b2, o2 + i * 8 + 3, none⟩) hb2).trans g3
        have d4 := (bel.cell (p := ⟨b2, o2 + i * 8 + 4, none⟩) hb2).trans g4
        have d5 := (bel.cell (p := ⟨b2, o2 + i * 8 + 5, none⟩) hb2).trans g5
        have d6 := (bel.cell (p := ⟨b2, o2 + i * 8 + 6, none⟩) hb2).trans g6
        have d7 := (bel.cell (p := ⟨b2, o2 + i * 8 + 7, none⟩) hb2).trans g7
        have hlt' : (i : Int) < (len : Int) := by omega
        have hss : s.size ≤ 281474976710656 := hA b2 o2 rfl i hlt s g2
        obtain ⟨hus, hxs⟩ := hU b2 o2 rfl i hlt u xa xl xc g3 g4
        have HXS := hidE hxs
        have HSS : Hid (s.size ≤ 281474976710656 ∧ u.size ≤ 281474976710656 ∧ n ≤ 300) := ⟨hss, hus, by omega⟩
        have HNI : Hid (n + 1 ≤ i + 1) := Nat.succ_le_succ hni
        have HBE := hidE bel
        have HPD0 := hidE HPD
        have HR := hidE HRH
        clear g0 g1 g2 g3 g4 g5 g6 g7 bel hc2 hO hA hU HP hq1 hq2 hq3 hni HPD HRH hss hus hxs
        rcases Nat.lt_or_ge 20 xl with hxl | hxl
        · have h4 : decide ((20 : Int) < (xl : Int)) = true := decide_eq_true (by omega)
          have HBF := hidE (HBE.out.alloc HBE.out.size (Obj.cells #[.int .i64 k, .int .i64 hh, .string s, .string u, .slice xa xl xc, .int .i64 nw, .int .i64 fl, .int .i64 co] 34))
          clear HBE HPD0 HR HXS HSS HNI
          go_wp2
          go_ret
          exact ⟨rfl, HBF.out⟩
        · have h4 : decide ((20 : Int) < (xl : Int)) = false := decide_eq_false (by omega)
          obtain ⟨xs, hxn, hTx⟩ := HXS.out (by omega)
          have HXN := hidE hxn
          have HTX := hidE hTx
          obtain ⟨m0, hm0⟩ : ∃ m0, max nw 0 = m0 := ⟨_, rfl⟩
          obtain ⟨now, hnow⟩ : ∃ now, min m0 2199023255552 = now := ⟨_, rfl⟩
          obtain ⟨m1, hm1⟩ : ∃ m1, max co 0 = m1 := ⟨_, rfl⟩
          obtain ⟨c2, hcc⟩ : ∃ c2, min m1 2199023255552 = c2 := ⟨_, rfl⟩
          have X0 := max_run nw 0 m0 hm0
          have X1 := min_run m0 2199023255552 now hnow
          have X2 := max_run co 0 m1 hm1
          have X3 := min_run m1 2199023255552 c2 hcc
          have HNW : Hid (0 ≤ now ∧ now ≤ 2199023255552 ∧ 0 ≤ c2 ∧ c2 ≤ 2199023255552) := ⟨by omega, by omega, by omega, by omega⟩
          clear hm0 hnow hm1 hcc hxn hTx HXS
          have mlt : mb < wr.heap.size := HPD0.out.bk.lt
          have mc0 := HPD0.out.bk.c0
          have mc1 := HPD0.out.bk.c1
          have mz0 := HPD0.out.bk.z 0
          have mz1 := HPD0.out.bk.z 1
          have HP1 := hidE ((HPD0.out.newF (Obj.cells #[.int .i64 k, .int .i64 hh, .string s, .string u, .slice xa xl xc, .int .i64 nw, .int .i64 fl, .int .i64 co] 34)).newF (Obj.cells #[.slice none 0 0, .slice none 0 0, .slice none 0 0, .slice none 0 0, .int .i64 0, .int .i64 0, .int .i64 fl, .int .i64 c2] 62))
          have s1 : (wr.alloc (Obj.cells #[.int .i64 k, .int .i64 hh, .string s, .string u, .slice xa xl xc, .int .i64 nw, .int .i64 fl, .int .i64 co] 34)).heap.size = wr.heap.size + 1 := by simp
          rw [s1] at HP1
          obtain ⟨ml, hml⟩ : ∃ ml, ml = M.length := ⟨_, rfl⟩
          have HML := hidE hml
          rw [← hml] at mc0
          obtain ⟨tl, htl⟩ : ∃ tl, tl = T.length := ⟨_, rfl⟩
          have HTL := hidE htl
          rw [← htl] at mc1
          clear hml htl s1 HPD0 HBE
          by_cases e1 : k = 5
          · subst e1
            have HJ := hidE (HP1.out.pick HR.out (by have := HSS.out; omega) u xs xa xc HTX.out HSS.out.2.1 now HNW.out.1 HNW.out.2.1)
            rw [← HML.out, ← HTL.out, HXN.out] at HJ
            go_wp2_with fail
            refine HJ.out.mono ?_
            rintro e V ⟨at2, ct2, T2, sa, er, rfl, BV, HT0⟩
            obtain ⟨tl2, htl2⟩ : ∃ tl2, tl2 = T2.length := ⟨_, rfl⟩
            have HTL2 := hidE htl2
            have HT := hidE HT0
            rw [← htl2] at HT ⊢
            have k0 := HP1.out.bk
            have md0 := (BV.block mb k0.lt).trans k0
            have vlt : mb < V.heap.size := (Array.getElem?_eq_some_iff.1 md0).1
            have fo := HP1.out.fr (wr.heap.size, Obj.cells #[.int .i64 5, .int .i64 hh, .string s, .string u, .slice xa xl xc, .int .i64 nw, .int .i64 fl, .int .i64 co] 34) (by simp)
            have fo2 := (BV.block _ (Array.getElem?_eq_some_iff.1 fo.1).1).trans fo.1
            have o2 : V.cell? ⟨wr.heap.size, 2, none⟩ = some (.string s) := tblk_cell fo2 rfl
            have o3 : V.cell? ⟨wr.heap.size, 3, none⟩ = some (.string u) := tblk_cell fo2 rfl
            have o4 : V.cell? ⟨wr.heap.size, 4, none⟩ = some (.slice xa xl xc) := tblk_cell fo2 rfl
            have olt : wr.heap.size < V.heap.size := (Array.getElem?_eq_some_iff.1 fo2).1
            have fc := HP1.out.fr (wr.heap.size + 1, Obj.cells #[.slice none 0 0, .slice none 0 0, .slice none 0 0, .slice none 0 0, .int .i64 0, .int .i64 0, .int .i64 fl, .int .i64 c2] 62) (by simp)
            have fc2 := (BV.block _ (Array.getElem?_eq_some_iff.1 fc.1).1).trans fc.1
            have q0 : V.cell? ⟨wr.heap.size + 1, 0, none⟩ = some (.slice none 0 0) := tblk_cell fc2 rfl
            have q1 : V.cell? ⟨wr.heap.size + 1, 1, none⟩ = some (.slice none 0 0) := tblk_cell fc2 rfl
            have q2 : V.cell? ⟨wr.heap.size + 1, 2, none⟩ = some (.slice none 0 0) := tblk_cell fc2 rfl
            have q3 : V.cell? ⟨wr.heap.size + 1, 3, none⟩ = some (.slice none 0 0) := tblk_cell fc2 rfl
            have q4 : V.cell? ⟨wr.heap.size + 1, 4, none⟩ = some (.int .i64 0) := tblk_cell fc2 rfl
            have q5 : V.cell? ⟨wr.heap.size + 1, 5, none⟩ = some (.int .i64 0) := tblk_cell fc2 rfl
            have q6 : V.cell? ⟨wr.heap.size + 1, 6, none⟩ = some (.int .i64 fl) := tblk_cell fc2 rfl
            have q7 : V.cell? ⟨wr.heap.size + 1, 7, none⟩ = some (.int .i64 c2) := tblk_cell fc2 rfl
            have qlt : wr.heap.size + 1 < V.heap.size := (Array.getElem?_eq_some_iff.1 fc2).1
            have vc0 := HBk.c0 md0
            have vc1 := HBk.c1 md0
            have n0 := HBk.z md0 0
            have n1 := HBk.z md0 1
            have ne1 : ¬ wr.heap.size = mb := by omega
            have ne2 : ¬ mb = wr.heap.size := by omega
            have ne3 : ¬ wr.heap.size + 1 = mb := by omega
            have ne4 : ¬ mb = wr.heap.size + 1 := by omega
            rw [← HML.out] at vc0
            rw [← HTL.out] at vc1
            clear k0 md0 fo fo2 fc fc2 mc0 mc1 mz0 mz1 d0 d1 d2 d3 d4 d5 d6 d7 X0 X1 X2 X3 h4

            clear HJ HT0 BV htl2 HP1
            go_wp2_with fail
            rw [set2_alloc _ _ _ _ _ vlt]
            refine (HT.out _ [(V.heap.size, Obj.cells #[.slice am ml cm, .slice at2 tl2 ct2] 57)] ((Below.refl _ _).alloc (Nat.le_refl _) _) (one_kept V _)).mono ?_
            rintro e w5 ⟨rfl, t2, P3, R2⟩
            replace P3 := hidE P3
            replace R2 := hidE R2
            have hsa : (ByteArray.toList sa == ByteArray.toList sa) = true := beq_self_eq_true _
            generalize hFF : [(V.heap.size, Obj.cells #[.slice am ml cm, .slice at2 tl2 ct2] 57)] ++ [(wr.heap.size + 1, Obj.cells #[.slice none 0 0, .slice none 0 0, .slice none 0 0, .slice none 0 0, .int .i64 0, .int .i64 0, .int .i64 fl, .int .i64 c2] 62), (wr.heap.size, Obj.cells #[.int .i64 5, .int .i64 hh, .string s, .string u, .slice xa xl xc, .int .i64 nw, .int .i64 fl, .int .i64 co] 34)] = FF at P3
            have HFF := hidE hFF
            have HML2 := HML
            clear vlt olt qlt vc0 vc1 n0 n1 ne1 ne2 ne3 ne4 o2 o3 o4 q0 q1 q2 q3 q4 q5 q6 q7
            clear HT hFF HR HTL
            have SK : Hid (∀ V, Hid (HD w FF h a b c mb (n + 1) t2 f q am cm M at2 ct2 T2 V) → Hid (HD w FF h a b c mb (n + 1) t2 f q am cm M at2 ct2 T2 V) ∧ V.cell? ⟨mb, 0, none⟩ = some (.slice am ml cm) ∧ V.cell? ⟨mb, 1, none⟩ = some (.slice at2 tl2 ct2) ∧ V.cell? ⟨wr.heap.size, 2, none⟩ = some (.string s)) := fun V hV => ⟨hV, by rw [HML2.out]; exact hV.out.bk.c0, by rw [HTL2.out]; exact hV.out.bk.c1, tblk_cell (hV.out.fr (wr.heap.size, Obj.cells #[.int .i64 5, .int .i64 hh, .string s, .string u, .slice xa xl xc, .int .i64 nw, .int .i64 fl, .int .i64 co] 34) (by rw [← HFF.out]; simp)).1 rfl⟩
            obtain ⟨sk, hsk⟩ : ∃ sk, sickB (q s) now = sk := ⟨_, rfl⟩
            have H1 : Hid (∀ V, Hid (HD w FF h a b c mb (n + 1) t2 f q am cm M at2 ct2 T2 V) → Calls Try.prog 29 #[.pointer (some ⟨h, 0, none⟩), .string s, .int .i64 now] V fun e W' => e = .returned (.bool sk) ∧ Hid (HD w FF h a b c mb (n + 1) t2 f q am cm M at2 ct2 T2 W')) := fun V hV => HD.sick hV s HSS.out.1 now (by have := HNW.out; unfold InR; omega) sk hsk
            have H2 : Hid (∀ V, Hid (HD w FF h a b c mb (n + 1) t2 f q am cm M at2 ct2 T2 V) → Calls Try.prog 30 #[.agg #[.slice am ml cm, .slice at2 tl2 ct2], .string s, .int .i64 now] V fun e W' => e = .returned (.bool sk) ∧ Hid (HD w FF h a b c mb (n + 1) t2 f q am cm M at2 ct2 T2 W')) := fun V hV => by rw [HML2.out, HTL2.out]; exact HD.rsick hV R2.out (by have := HSS.out; omega) s now HNW.out.1 sk hsk
            clear hsk HML2 HTL2 HFF HSS HNW HXN HTX
            have K0 := hidE (P3.out.bel (show Below (w5).heap.size (w5) (w5).drew from (Below.refl _ _).drew))
            have S0 := SK.out _ P3
            have KS := K0
            have SS := SK.out _ K0
            clear K0 P3
            go_wp2_with fail
            go_region_held3 (fun V => Hid (HD w FF h a b c mb (n + 1) t2 f q am cm M at2 ct2 T2 V) ∧ V.cell? ⟨mb, 0, none⟩ = some (.slice am ml cm) ∧ V.cell? ⟨mb, 1, none⟩ = some (.slice at2 tl2 ct2) ∧ V.cell? ⟨wr.heap.size, 2, none⟩ = some (.string s)) (first | exact SS | exact S0 | go_keep) (first
              | (go_simp; go_at_call 29; refine Calls.mono (H1.out _ KS) ?_; rintro e W1 ⟨rfl, KS⟩; have SS := SK.out _ KS)
              | (go_simp; go_at_call 30; refine Calls.mono (H2.out _ KS) ?_; rintro e W1 ⟨rfl, KS⟩; have SS := SK.out _ KS))
            clear H1 H2 SK SS S0
            go_wp2
            go_roundw
            case rel => exact ⟨i + 1, by omega, by go_num, ⟨n + 1, t2, f, q, am, cm, M, at2, ct2, T2, HNI.out, KS.out.less (fun p hp => by cases hp), R2.out⟩⟩
            case measure => simp [intOf]; omega
          by_cases e2 : k = 6
          · subst e2
            have HJ := hidE (HP1.out.bad HR.out (by have := HSS.out; omega) s HSS.out.1 now fl c2 HNW.out.1 HNW.out.2.1 HNW.out.2.2.1 HNW.out.2.2.2)
            unfold confV at HJ
            rw [← HML.out, ← HTL.out] at HJ
            go_wp2_with fail
            refine HJ.out.mono ?_
            rintro e V ⟨am2, cm2, M2, bb, rfl, BV, HT0⟩
            obtain ⟨ml2, hml2⟩ : ∃ ml2, ml2 = M2.length := ⟨_, rfl⟩
            have HML2 := hidE hml2
            have HT := hidE HT0
            rw [← hml2] at HT ⊢
            have k0 := HP1.out.bk
            have md0 := (BV.block mb k0.lt).trans k0
            have vlt : mb < V.heap.size := (Array.getElem?_eq_some_iff.1 md0).1
            have fo := HP1.out.fr (wr.heap.size, Obj.cells #[.int .i64 6, .int .i64 hh, .string s, .string u, .slice xa xl xc, .int .i64 nw, .int .i64 fl, .int .i64 co] 34) (by simp)
            have fo2 := (BV.block _ (Array.getElem?_eq_some_iff.1 fo.1).1).trans fo.1
            have o2 : V.cell? ⟨wr.heap.size, 2, none⟩ = some (.string s) := tblk_cell fo2 rfl
            have o3 : V.cell? ⟨wr.heap.size, 3, none⟩ = some (.string u) := tblk_cell fo2 rfl
            have o4 : V.cell? ⟨wr.heap.size, 4, none⟩ = some (.slice xa xl xc) := tblk_cell fo2 rfl
            have olt : wr.heap.size < V.heap.size := (Array.getElem?_eq_some_iff.1 fo2).1
            have fc := HP1.out.fr (wr.heap.size + 1, Obj.cells #[.slice none 0 0, .slice none 0 0, .slice none 0 0, .slice none 0 0, .int .i64 0, .int .i64 0, .int .i64 fl, .int .i64 c2] 62) (by simp)
            have fc2 := (BV.block _ (Array.getElem?_eq_some_iff.1 fc.1).1).trans fc.1
            have q0 : V.cell? ⟨wr.heap.size + 1, 0, none⟩ = some (.slice none 0 0) := tblk_cell fc2 rfl
            have q1 : V.cell? ⟨wr.heap.size + 1, 1, none⟩ = some (.slice none 0 0) := tblk_cell fc2 rfl
            have q2 : V.cell? ⟨wr.heap.size + 1, 2, none⟩ = some (.slice none 0 0) := tblk_cell fc2 rfl
            have q3 : V.cell? ⟨wr.heap.size + 1, 3, none⟩ = some (.slice none 0 0) := tblk_cell fc2 rfl
            have q4 : V.cell? ⟨wr.heap.size + 1, 4, none⟩ = some (.int .i64 0) := tblk_cell fc2 rfl
            have q5 : V.cell? ⟨wr.heap.size + 1, 5, none⟩ = some (.int .i64 0) := tblk_cell fc2 rfl
            have q6 : V.cell? ⟨wr.heap.size + 1, 6, none⟩ = some (.int .i64 fl) := tblk_cell fc2 rfl
            have q7 : V.cell? ⟨wr.heap.size + 1, 7, none⟩ = some (.int .i64 c2) := tblk_cell fc2 rfl
            have qlt : wr.heap.size + 1 < V.heap.size := (Array.getElem?_eq_some_iff.1 fc2).1
            have vc0 := HBk.c0 md0
            have vc1 := HBk.c1 md0
            have n0 := HBk.z md0 0
            have n1 := HBk.z md0 1
            have ne1 : ¬ wr.heap.size = mb := by omega
            have ne2 : ¬ mb = wr.heap.size := by omega
            have ne3 : ¬ wr.heap.size + 1 = mb := by omega
            have ne4 : ¬ mb = wr.heap.size + 1 := by omega
            rw [← HML.out] at vc0
            rw [← HTL.out] at vc1
            clear k0 md0 fo fo2 fc fc2 mc0 mc1 mz0 mz1 d0 d1 d2 d3 d4 d5 d6 d7 X0 X1 X2 X3 h4

            clear HJ HT0 BV hml2 HP1
            go_wp2_with fail
            rw [set2_alloc _ _ _ _ _ vlt]
            refine (HT.out _ [(V.heap.size, Obj.cells #[.slice am2 ml2 cm2, .slice at' tl ct] 57)] ((Below.refl _ _).alloc (Nat.le_refl _) _) (one_kept V _)).mono ?_
            rintro e w5 ⟨rfl, f2, q2', P3, R2⟩
            replace P3 := hidE P3
            replace R2 := hidE R2
            generalize hFF : [(V.heap.size, Obj.cells #[.slice am2 ml2 cm2, .slice at' tl ct] 57)] ++ [(wr.heap.size + 1, Obj.cells #[.slice none 0 0, .slice none 0 0, .slice none 0 0, .slice none 0 0, .int .i64 0, .int .i64 0, .int .i64 fl, .int .i64 c2] 62), (wr.heap.size, Obj.cells #[.int .i64 6, .int .i64 hh, .string s, .string u, .slice xa xl xc, .int .i64 nw, .int .i64 fl, .int .i64 co] 34)] = FF at P3
            have HFF := hidE hFF
            have HTL2 := HTL
            clear vlt olt qlt vc0 vc1 n0 n1 ne1 ne2 ne3 ne4 o2 o3 o4 q0 q1 q2 q3 q4 q5 q6 q7
            clear HT hFF HR HML
            have SK : Hid (∀ V, Hid (HD w FF h a b c mb (n + 1) t f2 q2' am2 cm2 M2 at' ct T V) → Hid (HD w FF h a b c mb (n + 1) t f2 q2' am2 cm2 M2 at' ct T V) ∧ V.cell? ⟨mb, 0, none⟩ = some (.slice am2 ml2 cm2) ∧ V.cell? ⟨mb, 1, none⟩ = some (.slice at' tl ct) ∧ V.cell? ⟨wr.heap.size, 2, none⟩ = some (.string s)) := fun V hV => ⟨hV, by rw [HML2.out]; exact hV.out.bk.c0, by rw [HTL2.out]; exact hV.out.bk.c1, tblk_cell (hV.out.fr (wr.heap.size, Obj.cells #[.int .i64 6, .int .i64 hh, .string s, .string u, .slice xa xl xc, .int .i64 nw, .int .i64 fl, .int .i64 co] 34) (by rw [← HFF.out]; simp)).1 rfl⟩
            obtain ⟨sk, hsk⟩ : ∃ sk, sickB (q2' s) now = sk := ⟨_, rfl⟩
            have H1 : Hid (∀ V, Hid (HD w FF h a b c mb (n + 1) t f2 q2' am2 cm2 M2 at' ct T V) → Calls Try.prog 29 #[.pointer (some ⟨h, 0, none⟩), .string s, .int .i64 now] V fun e W' => e = .returned (.bool sk) ∧ Hid (HD w FF h a b c mb (n + 1) t f2 q2' am2 cm2 M2 at' ct T W')) := fun V hV => HD.sick hV s HSS.out.1 now (by have := HNW.out; unfold InR; omega) sk hsk
            have H2 : Hid (∀ V, Hid (HD w FF h a b c mb (n + 1) t f2 q2' am2 cm2 M2 at' ct T V) → Calls Try.prog 30 #[.agg #[.slice am2 ml2 cm2, .slice at' tl ct], .string s, .int .i64 now] V fun e W' => e = .returned (.bool sk) ∧ Hid (HD w FF h a b c mb (n + 1) t f2 q2' am2 cm2 M2 at' ct T W')) := fun V hV => by rw [HML2.out, HTL2.out]; exact HD.rsick hV R2.out (by have := HSS.out; omega) s now HNW.out.1 sk hsk
            clear hsk HML2 HTL2 HFF HSS HNW HXN HTX
            have K0 := hidE (P3.out.bel (show Below (w5).heap.size (w5) (w5).drew from (Below.refl _ _).drew))
            have S0 := SK.out _ P3
            have KS := K0
            have SS := SK.out _ K0
            clear K0 P3
            go_wp2_with fail
            go_region_held3 (fun V => Hid (HD w FF h a b c mb (n + 1) t f2 q2' am2 cm2 M2 at' ct T V) ∧ V.cell? ⟨mb, 0, none⟩ = some (.slice am2 ml2 cm2) ∧ V.cell? ⟨mb, 1, none⟩ = some (.slice at' tl ct) ∧ V.cell? ⟨wr.heap.size, 2, none⟩ = some (.string s)) (first | exact SS | exact S0 | go_keep) (first
              | (go_simp; go_at_call 29; refine Calls.mono (H1.out _ KS) ?_; rintro e W1 ⟨rfl, KS⟩; have SS := SK.out _ KS)
              | (go_simp; go_at_call 30; refine Calls.mono (H2.out _ KS) ?_; rintro e W1 ⟨rfl, KS⟩; have SS := SK.out _ KS))
            clear H1 H2 SK SS S0
            go_wp2
            go_roundw
            case rel => exact ⟨i + 1, by omega, by go_num, ⟨n + 1, t, f2, q2', am2, cm2, M2, at', ct, T, HNI.out, KS.out.less (fun p hp => by cases hp), R2.out⟩⟩
            case measure => simp [intOf]; omega
          by_cases e3 : k = 7
          · subst e3
            have HJ := hidE (HP1.out.good1 s HSS.out.1)
            go_wp2_with fail
            refine HJ.out.mono ?_
            rintro e V ⟨rfl, K1⟩
            have HK1 := hidE K1
            have HJ2 := hidE (HD.good2 s K1 HR.out (by have := HSS.out; omega))
            rw [← HML.out, ← HTL.out] at HJ2
            have vlt : mb < V.heap.size := K1.bk.lt
            have vc0 := K1.bk.c0
            have vc1 := K1.bk.c1
            have fo := K1.fr (wr.heap.size, Obj.cells #[.int .i64 7, .int .i64 hh, .string s, .string u, .slice xa xl xc, .int .i64 nw, .int .i64 fl, .int .i64 co] 34) (by simp)
            have o2 : V.cell? ⟨wr.heap.size, 2, none⟩ = some (.string s) := tblk_cell fo.1 rfl
            rw [← HML.out] at vc0
            rw [← HTL.out] at vc1
            clear HJ K1 fo mc0 mc1 mz0 mz1 d0 d1 d2 d3 d4 d5 d6 d7 X0 X1 X2 X3 h4 HP1
            go_wp2_with fail
            refine HJ2.out.mono ?_
            rintro e V1 ⟨am2, cm2, M2, rfl, BV, P3, R2⟩
            have k0 := HK1.out.bk
            have md0 := (BV.block mb k0.lt).trans k0
            have vd0 := HBk.c0 md0
            have vd1 := HBk.c1 md0
            have n0 := HBk.z md0 0
            have n1 := HBk.z md0 1
            obtain ⟨ml2, hml2⟩ : ∃ ml2, ml2 = M2.length := ⟨_, rfl⟩
            have HML2 := hidE hml2
            rw [← hml2] at P3 ⊢
            replace P3 := hidE P3
            replace R2 := hidE R2
            generalize hFF : [(wr.heap.size + 1, Obj.cells #[.slice none 0 0, .slice none 0 0, .slice none 0 0, .slice none 0 0, .int .i64 0, .int .i64 0, .int .i64 fl, .int .i64 c2] 62), (wr.heap.size, Obj.cells #[.int .i64 7, .int .i64 hh, .string s, .string u, .slice xa xl xc, .int .i64 nw, .int .i64 fl, .int .i64 co] 34)] = FF at P3
            have HFF := hidE hFF
            have HTL2 := HTL
            clear HJ2 BV k0 md0 hml2 hFF HR HK1 vc0 vc1 o2 vlt HML
            have SK : Hid (∀ V, Hid (HD w FF h a b c mb (n + 1) t (upd f s 0) q am2 cm2 M2 at' ct T V) → Hid (HD w FF h a b c mb (n + 1) t (upd f s 0) q am2 cm2 M2 at' ct T V) ∧ V.cell? ⟨mb, 0, none⟩ = some (.slice am2 ml2 cm2) ∧ V.cell? ⟨mb, 1, none⟩ = some (.slice at' tl ct) ∧ V.cell? ⟨wr.heap.size, 2, none⟩ = some (.string s)) := fun V hV => ⟨hV, by rw [HML2.out]; exact hV.out.bk.c0, by rw [HTL2.out]; exact hV.out.bk.c1, tblk_cell (hV.out.fr (wr.heap.size, Obj.cells #[.int .i64 7, .int .i64 hh, .string s, .string u, .slice xa xl xc, .int .i64 nw, .int .i64 fl, .int .i64 co] 34) (by rw [← HFF.out]; simp)).1 rfl⟩
            obtain ⟨sk, hsk⟩ : ∃ sk, sickB (q s) now = sk := ⟨_, rfl⟩
            have H1 : Hid (∀ V, Hid (HD w FF h a b c mb (n + 1) t (upd f s 0) q am2 cm2 M2 at' ct T V) → Calls Try.prog 29 #[.pointer (some ⟨h, 0, none⟩), .string s, .int .i64 now] V fun e W' => e = .returned (.bool sk) ∧ Hid (HD w FF h a b c mb (n + 1) t (upd f s 0) q am2 cm2 M2 at' ct T W')) := fun V hV => HD.sick hV s HSS.out.1 now (by have := HNW.out; unfold InR; omega) sk hsk
            have H2 : Hid (∀ V, Hid (HD w FF h a b c mb (n + 1) t (upd f s 0) q am2 cm2 M2 at' ct T V) → Calls Try.prog 30 #[.agg #[.slice am2 ml2 cm2, .slice at' tl ct], .string s, .int .i64 now] V fun e W' => e = .returned (.bool sk) ∧ Hid (HD w FF h a b c mb (n + 1) t (upd f s 0) q am2 cm2 M2 at' ct T W')) := fun V hV => by rw [HML2.out, HTL2.out]; exact HD.rsick hV R2.out (by have := HSS.out; omega) s now HNW.out.1 sk hsk
            clear hsk HML2 HTL2 HFF HSS HNW HXN HTX
            have K0 := hidE (P3.out.bel (show Below (((V1.setCell ⟨mb, 0, none⟩ (.slice am2 ml2 cm2)).setCell ⟨mb, 1, none⟩ (.slice at' tl ct))).heap.size (((V1.setCell ⟨mb, 0, none⟩ (.slice am2 ml2 cm2)).setCell ⟨mb, 1, none⟩ (.slice at' tl ct))) (((V1.setCell ⟨mb, 0, none⟩ (.slice am2 ml2 cm2)).setCell ⟨mb, 1, none⟩ (.slice at' tl ct))).drew from (Below.refl _ _).drew))
            have S0 := SK.out _ P3
            have KS := K0
            have SS := SK.out _ K0
            clear K0 P3
            go_wp2_with fail
            go_region_held3 (fun V => Hid (HD w FF h a b c mb (n + 1) t (upd f s 0) q am2 cm2 M2 at' ct T V) ∧ V.cell? ⟨mb, 0, none⟩ = some (.slice am2 ml2 cm2) ∧ V.cell? ⟨mb, 1, none⟩ = some (.slice at' tl ct) ∧ V.cell? ⟨wr.heap.size, 2, none⟩ = some (.string s)) (first | exact SS | exact S0 | go_keep) (first
              | (go_simp; go_at_call 29; refine Calls.mono (H1.out _ KS) ?_; rintro e W1 ⟨rfl, KS⟩; have SS := SK.out _ KS)
              | (go_simp; go_at_call 30; refine Calls.mono (H2.out _ KS) ?_; rintro e W1 ⟨rfl, KS⟩; have SS := SK.out _ KS))
            clear H1 H2 SK SS S0
            go_wp2
            go_roundw
            case rel => exact ⟨i + 1, by omega, by go_num, ⟨n + 1, t, (upd f s 0), q, am2, cm2, M2, at', ct, T, HNI.out, KS.out.less (fun p hp => by cases hp), R2.out⟩⟩
            case measure => simp [intOf]; omega
          have k1 : (k == 5) = false := by simp [e1]
          have k2 : (k == 6) = false := by simp [e2]
          have k3 : (k == 7) = false := by simp [e3]
          clear e1 e2 e3
          have P3 := hidE (HP1.out.mono (Nat.le_succ n))
          have R2 := hidE (HR.out.mono (Nat.le_succ n))
          clear HP1 HR
          generalize hFF : [(wr.heap.size + 1, Obj.cells #[.slice none 0 0, .slice none 0 0, .slice none 0 0, .slice none 0 0, .int .i64 0, .int .i64 0, .int .i64 fl, .int .i64 c2] 62), (wr.heap.size, Obj.cells #[.int .i64 k, .int .i64 hh, .string s, .string u, .slice xa xl xc, .int .i64 nw, .int .i64 fl, .int .i64 co] 34)] = FF at P3
          have HFF := hidE hFF
          have HML2 := HML
          have HTL2 := HTL
          clear hFF
          have SK : Hid (∀ V, Hid (HD w FF h a b c mb (n + 1) t f q am cm M at' ct T V) → Hid (HD w FF h a b c mb (n + 1) t f q am cm M at' ct T V) ∧ V.cell? ⟨mb, 0, none⟩ = some (.slice am ml cm) ∧ V.cell? ⟨mb, 1, none⟩ = some (.slice at' tl ct) ∧ V.cell? ⟨wr.heap.size, 2, none⟩ = some (.string s)) := fun V hV => ⟨hV, by rw [HML2.out]; exact hV.out.bk.c0, by rw [HTL2.out]; exact hV.out.bk.c1, tblk_cell (hV.out.fr (wr.heap.size, Obj.cells #[.int .i64 k, .int .i64 hh, .string s, .string u, .slice xa xl xc, .int .i64 nw, .int .i64 fl, .int .i64 co] 34) (by rw [← HFF.out]; simp)).1 rfl⟩
          obtain ⟨sk, hsk⟩ : ∃ sk, sickB (q s) now = sk := ⟨_, rfl⟩
          have H1 : Hid (∀ V, Hid (HD w FF h a b c mb (n + 1) t f q am cm M at' ct T V) → Calls Try.prog 29 #[.pointer (some ⟨h, 0, none⟩), .string s, .int .i64 now] V fun e W' => e = .returned (.bool sk) ∧ Hid (HD w FF h a b c mb (n + 1) t f q am cm M at' ct T W')) := fun V hV => HD.sick hV s HSS.out.1 now (by have := HNW.out; unfold InR; omega) sk hsk
          have H2 : Hid (∀ V, Hid (HD w FF h a b c mb (n + 1) t f q am cm M at' ct T V) → Calls Try.prog 30 #[.agg #[.slice am ml cm, .slice at' tl ct], .string s, .int .i64 now] V fun e W' => e = .returned (.bool sk) ∧ Hid (HD w FF h a b c mb (n + 1) t f q am cm M at' ct T W')) := fun V hV => by rw [HML2.out, HTL2.out]; exact HD.rsick hV R2.out (by have := HSS.out; omega) s now HNW.out.1 sk hsk
          clear hsk HML2 HTL2 HFF HSS HNW HXN HTX
          have K0 := hidE (P3.out.bel (show Below (((wr.alloc (Obj.cells #[.int .i64 k, .int .i64 hh, .string s, .string u, .slice xa xl xc, .int .i64 nw, .int .i64 fl, .int .i64 co] 34)).alloc (Obj.cells #[.slice none 0 0, .slice none 0 0, .slice none 0 0, .slice none 0 0, .int .i64 0, .int .i64 0, .int .i64 fl, .int .i64 c2] 62))).heap.size (((wr.alloc (Obj.cells #[.int .i64 k, .int .i64 hh, .string s, .string u, .slice xa xl xc, .int .i64 nw, .int .i64 fl, .int .i64 co] 34)).alloc (Obj.cells #[.slice none 0 0, .slice none 0 0, .slice none 0 0, .slice none 0 0, .int .i64 0, .int .i64 0, .int .i64 fl, .int .i64 c2] 62))) (((wr.alloc (Obj.cells #[.int .i64 k, .int .i64 hh, .string s, .string u, .slice xa xl xc, .int .i64 nw, .int .i64 fl, .int .i64 co] 34)).alloc (Obj.cells #[.slice none 0 0, .slice none 0 0, .slice none 0 0, .slice none 0 0, .int .i64 0, .int .i64 0, .int .i64 fl, .int .i64 c2] 62))).drew from (Below.refl _ _).drew))
          have S0 := SK.out _ P3
          have KS := K0
          have SS := SK.out _ K0
          clear K0 P3
          go_wp2_with fail
          go_region_held3 (fun V => Hid (HD w FF h a b c mb (n + 1) t f q am cm M at' ct T V) ∧ V.cell? ⟨mb, 0, none⟩ = some (.slice am ml cm) ∧ V.cell? ⟨mb, 1, none⟩ = some (.slice at' tl ct) ∧ V.cell? ⟨wr.heap.size, 2, none⟩ = some (.string s)) (first | exact SS | exact S0 | go_keep) (first
            | (go_simp; go_at_call 29; refine Calls.mono (H1.out _ KS) ?_; rintro e W1 ⟨rfl, KS⟩; have SS := SK.out _ KS)
            | (go_simp; go_at_call 30; refine Calls.mono (H2.out _ KS) ?_; rintro e W1 ⟨rfl, KS⟩; have SS := SK.out _ KS))
          clear H1 H2 SK SS S0
          go_wp2
          go_roundw
          case rel => exact ⟨i + 1, by omega, by go_num, ⟨n + 1, t, f, q, am, cm, M, at', ct, T, HNI.out, KS.out.less (fun p hp => by cases hp), R2.out⟩⟩
          case measure => simp [intOf]; omega
      · obtain rfl : i = len := by omega
        obtain ⟨n, t, f, q, am, cm, M, at', ct, T, hni, HPD, HRH⟩ := HP.out
        have HZ := hidE HPD.be
        clear HP HPD HRH hO hA hU
        go_wp2
        go_ret
        exact ⟨rfl, HZ.out⟩
end Go.Proofs.Ytlaigjapnmgjeaa
