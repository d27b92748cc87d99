/- RingPlays' walk (written by rpg.py). -/
import Derived.Test.YtenajbefknlalaaRpH
import Derived.ProofKit
import Derived.OpenShut
import Derived.Deep.QuietTactic
import Derived.BigQuiet
import Derived.Deep.DeepCutAuto
namespace Go.Proofs.Ytenajbefknlalaa
open Go.ChangeShapes Go.WideShapes Go.ChangeAt Go.RowKit
set_option linter.unusedVariables false

theorem mod3 (k : Nat) : (k : Int).tmod 3 = ((k % 3 : Nat) : Int) := by rw [Int.tmod_eq_emod_of_nonneg (by omega)]; omega
theorem opAt_get {w W : World} {b o : Nat} {a : OpP} (h : OpAt w b o a) (hb : b < w.heap.size) (B : Below w.heap.size w W) : ∃ xa xc kx, W.cell? ⟨b, o, none⟩ = some (.int .i64 a.k) ∧ W.cell? ⟨b, o + 1, none⟩ = some (.int .i64 a.r) ∧ W.cell? ⟨b, o + 2, none⟩ = some (.int .i64 a.n) ∧ W.cell? ⟨b, o + 3, none⟩ = some (.slice xa a.b.length xc) ∧ Src W kx (.slice xa a.b.length xc) a.b ∧ (0 < a.b.length → kx < w.heap.size) ∧ (xa = none → xc = 0) := by
  obtain ⟨xa, xc, kx, k0, k1, k2, k3, hS, hk, hn⟩ := h
  exact ⟨xa, xc, kx, (B.cell (p := ⟨b, _, none⟩) hb).trans k0, (B.cell (p := ⟨b, _, none⟩) hb).trans k1, (B.cell (p := ⟨b, _, none⟩) hb).trans k2, (B.cell (p := ⟨b, _, none⟩) hb).trans k3, hS.keep hk B, hk, hn⟩
set_option maxRecDepth 100000 in
set_option maxHeartbeats 8000000 in
theorem rp_walk (most : Int) (a0 : Option Addr) (len cap : Nat) (qs : List OpP) (w : World) (h0 : Opl w a0 len qs) :
    Calls Try.prog 3 #[.int .i64 most, .slice a0 len cap] w fun e w' => e = .returned (.bool true) ∧ Below w.heap.size w w' := by
  obtain ⟨hql, hll, hAt⟩ := h0
  unfold maxLen at hll
  have hmb := mst_bd most
  generalize hmm : mst most = m at *
  have HMM : Hid (mst most = m) := hmm
  clear hmm
  go_enter Try.func3, Try.ntmps3
  go_wp2_with fail
  refine (new_m most _).mono ?_
  rw [HMM.out]
  rintro e w1 ⟨mb, rfl, hmb1, M1, B1⟩
  go_wp2_with fail
  refine (alive_any _).mono ?_
  rintro e w2 ⟨rfl, B2⟩
  have C2 := B1.trans (B2.mono B1.size)
  have T0 := many_start (w0 := w) (Below.isM B2 M1.lt M1) hmb.1 hmb.2 (by omega) C2
  clear B1 B2 M1 C2 hmb1
  go_wp2_with fail
  refine (many_new T0).mono ?_
  rintro e w3 ⟨r0, rfl, hr, T1, B3⟩
  clear T0 B3 hr
  go_wp2_with fail
  refine (many_new T1).mono ?_
  rintro e w4 ⟨r1, rfl, hr, T2, B4⟩
  clear T1 B4 hr
  go_wp2_with fail
  refine (many_new T2).mono ?_
  rintro e w5 ⟨r2, rfl, hr, T3, B5⟩
  clear T2 B5 hr
  have RB := new_at w5 (.cells #[.pointer (some ⟨r0, 0, none⟩), .pointer (some ⟨r1, 0, none⟩), .pointer (some ⟨r2, 0, none⟩)] 26)
  have B6 : Below w5.heap.size w5 (w5.alloc (.cells #[.pointer (some ⟨r0, 0, none⟩), .pointer (some ⟨r1, 0, none⟩), .pointer (some ⟨r2, 0, none⟩)] 26)) := (Below.refl _ _).alloc (Nat.le_refl _) _
  go_wp2_with fail
  refine (r3new_any most _).mono ?_
  rw [HMM.out]
  rintro e w7 ⟨xv, rfl, MT, B7⟩
  obtain ⟨xa, xc, Vs, rfl, q1, q2, q3, q4, q5, q6⟩ := MT
  have MT : Mat (fun i => (w5.alloc (.cells #[.pointer (some ⟨r0, 0, none⟩), .pointer (some ⟨r1, 0, none⟩), .pointer (some ⟨r2, 0, none⟩)] 26)).heap.size ≤ i ∧ i < w7.heap.size) w7 (.slice (some ⟨xa, 0, none⟩) 3 xc) [[], [], []] := ⟨xa, xc, Vs, rfl, q1, q2, q3, q4, q5, q6⟩
  have XB := new_at w7 (.cells #[.int .i64 0, .int .i64 0, .int .i64 m, .slice (some ⟨xa, 0, none⟩) 3 xc] 33)
  have B8 : Below w7.heap.size w7 (w7.alloc (.cells #[.int .i64 0, .int .i64 0, .int .i64 m, .slice (some ⟨xa, 0, none⟩) 3 xc] 33)) := (Below.refl _ _).alloc (Nat.le_refl _) _
  have hs6 : (w5.alloc (.cells #[.pointer (some ⟨r0, 0, none⟩), .pointer (some ⟨r1, 0, none⟩), .pointer (some ⟨r2, 0, none⟩)] 26)).heap.size = w5.heap.size + 1 := by simp
  have hs8 : (w7.alloc (.cells #[.int .i64 0, .int .i64 0, .int .i64 m, .slice (some ⟨xa, 0, none⟩) 3 xc] 33)).heap.size = w7.heap.size + 1 := by simp
  have D8 := (B6.trans (B7.mono B6.size)).trans (B8.mono (by have := B7.size; omega))
  have hs7 := B7.size
  have hw5 := T3.bel.size
  have P8 : PI w (w7.alloc (.cells #[.int .i64 0, .int .i64 0, .int .i64 m, .slice (some ⟨xa, 0, none⟩) 3 xc] 33)) (fun k => k < w.heap.size ∨ (w5.heap.size ≤ k ∧ k < w7.heap.size)) mb w7.heap.size w5.heap.size [r0, r1, r2] [[], [], []] m 0 xa xc := by
    refine ⟨T3.step (Kp.ofBelow (T := fun _ => False) D8) (fun _ c => c.elim) (fun i hi => ?_), MT.frame (fun k hk => B8.block k (by omega)) (fun k hk => .inr ⟨by omega, by omega⟩), rfl, rfl, fun c => ?_, by omega, fun k hk => .inl hk, .inr ⟨Nat.le_refl _, by omega⟩, XB, (B8.block _ (by omega)).trans ((B7.block _ (by omega)).trans RB)⟩
    · rcases hi with (hi | hi) | hi
      · exact .inl hi
      · exact .inr ⟨hi.1, by omega⟩
      · exact .inr ⟨by omega, by omega⟩
    · rcases c with c | c <;> omega
  have HP8 : Hid (PI w (w7.alloc (.cells #[.int .i64 0, .int .i64 0, .int .i64 m, .slice (some ⟨xa, 0, none⟩) 3 xc] 33)) (fun k => k < w.heap.size ∨ (w5.heap.size ≤ k ∧ k < w7.heap.size)) mb w7.heap.size w5.heap.size [r0, r1, r2] [[], [], []] m 0 xa xc) := P8
  clear P8 T3 MT XB RB B6 B7 B8 D8 hs6 hs8 hs7 hw5 q1 q2 q3 q4 q5 q6
  have HQL : Hid (qs.length = len) := hql
  have HAT : Hid (0 < len → ∃ b off, a0 = some ⟨b, off, none⟩ ∧ b < w.heap.size ∧ ∀ (j : Nat) (hj : j < qs.length), OpAt w b (off + j * 4) qs[j]) := hAt
  clear hql hAt
  go_wp2_with fail
  generalize w7.heap.size = bx at *
  generalize w5.heap.size = br at *
  generalize hrs : [r0, r1, r2] = rs at *
  clear hrs
  go_loopw [8, 45] (fun vu vi wr => ∃ (i u : Nat) (G : Nat → Prop) (Ls : List (List UInt8)) (p : Int) (xa xc : Nat), i ≤ len ∧ vi = .int .i64 i ∧ vu = .int .i64 u ∧ u ≤ 20000 ∧ Hid (PI w wr G mb bx br rs Ls m p xa xc)) (fun _ vi _ => len - (intOf vi).toNat)
  case atStart => exact ⟨0, 0, _, _, _, xa, xc, Nat.zero_le _, rfl, rfl, Nat.zero_le _, HP8⟩
  case round =>
    clear HP8
    obtain ⟨i, u, G, Ls, p, ya, yc, hi, rfl, rfl, hu, hPI⟩ := hrel
    rename World => wo
    by_cases hlt : i < len
    · obtain ⟨kb, off, rfl, hkb, hAt⟩ := HAT.out (by omega)
      have hbel := hPI.out.many.bel
      obtain ⟨ba, bc, ko, c0, c1, c2, c3, hS, hkS, hnS⟩ := opAt_get (hAt i (by have := HQL.out; omega)) hkb hbel
      generalize qs[i]'(by have := HQL.out; omega) = q at *
      obtain ⟨kd, rr, nn, b⟩ := q
      simp only at c0 c1 c2 c3 hS hkS hnS
      clear hAt
      obtain ⟨mn, hmn0⟩ : ∃ mn : Nat, mn = Nat.min b.length 20000 := ⟨_, rfl⟩
      have hmn : min (b.length : Int) 20000 = (mn : Int) := by rw [hmn0]; show min _ _ = ((min b.length 20000 : Nat) : Int); omega
      have hmnb : mn ≤ 20000 := by rw [hmn0]; exact Nat.min_le_right _ _
      have HMN : Hid (mn = Nat.min b.length 20000) := hmn0
      clear hmn0
      by_cases hbig : 20000 < u + (mn + 10)
      · have hbg : (20000 : Int) < (u : Int) + ((mn : Int) + 10) := by omega
        have hB' : Below w.heap.size w (wo.alloc (.cells #[.int .i64 kd, .int .i64 rr, .int .i64 nn, .slice ba b.length bc] 37)) := hbel.alloc hbel.size _
        clear hPI hS
        go_wp2
        go_ret
        exact ⟨rfl, hB'⟩
      · have hbg : ¬ (20000 : Int) < (u : Int) + ((mn : Int) + 10) := by omega
        have hbl : b.length ≤ 20000 := by
          have := HMN.out
          rcases Nat.le_total b.length 20000 with c | c
          · exact c
          · rw [show Nat.min b.length 20000 = 20000 from Nat.min_eq_right c] at this; omega
        obtain ⟨kk, hkk, hbits0⟩ := and_mask rr 1023 (by decide)
        have hbits : bits .and .i64 rr (1023 : Int) = (kk : Int) := hbits0
        clear hbits0
        have hmod := mod3 kk
        obtain ⟨j, hj⟩ : ∃ j, j = kk % 3 := ⟨_, rfl⟩
        rw [← hj] at hmod
        have hj3 : j < 3 := by omega
        have hj3I : (j : Int) < 3 := by omega
        have hj0I : (0 : Int) ≤ (j : Int) := by omega
        have HJ : Hid (j = kk % 3) := hj
        clear hj
        obtain ⟨L, hL⟩ : ∃ L, Ls[j]? = some L := ⟨_, List.getElem?_eq_getElem (by rw [hPI.out.len]; exact hj3)⟩
        obtain ⟨r, hr⟩ : ∃ r, rs[j]? = some r := ⟨_, List.getElem?_eq_getElem (by rw [hPI.out.lenr]; exact hj3)⟩
        have U : Below wo.heap.size wo (wo.alloc (.cells #[.int .i64 kd, .int .i64 rr, .int .i64 nn, .slice ba b.length bc] 37)) := (Below.refl _ _).alloc (Nat.le_refl _) _
        have hs1 : (wo.alloc (.cells #[.int .i64 kd, .int .i64 rr, .int .i64 nn, .slice ba b.length bc] 37)).heap.size = wo.heap.size + 1 := by simp
        have hP0 : Hid (PI w (wo.alloc (.cells #[.int .i64 kd, .int .i64 rr, .int .i64 nn, .slice ba b.length bc] 37)) (fun k => G k ∨ (wo.heap.size ≤ k ∧ k < wo.heap.size + 1)) mb bx br rs Ls m p ya yc) := by
          have k := hPI.out.below U
          rw [hs1] at k
          exact k
        obtain ⟨ko', hko', hS'⟩ : ∃ k', G k' ∧ Src wo k' (.slice ba b.length bc) b := by
          rcases Nat.eq_zero_or_pos b.length with z | z
          · obtain ⟨x, y, e, z1, z2, z3⟩ := hS
            exact ⟨br, hPI.out.gr, x, y, e, z1, z2, fun q => by omega⟩
          · exact ⟨ko, hPI.out.old ko (hkS z), hS⟩
        have HG1 : Hid (∀ k, k < w.heap.size → G k) := hPI.out.old
        have HG2 : Hid (∀ k, G k → k < wo.heap.size) := hPI.out.glt
        clear hkS hS
        by_cases hk1 : kd = 1
        · subst hk1
          as_aux_lemma =>
            have hbx0 := heap_lt hP0.out.xb
            have ER := hP0.out.ri
            have A0 := Acc.empty (wo.alloc (.cells #[.int .i64 1, .int .i64 rr, .int .i64 nn, .slice ba b.length bc] 37))
            rw [hs1] at A0
            have E0 : Below (wo.heap.size + 1) (wo.alloc (.cells #[.int .i64 1, .int .i64 rr, .int .i64 nn, .slice ba b.length bc] 37)) ((wo.alloc (.cells #[.int .i64 1, .int .i64 rr, .int .i64 nn, .slice ba b.length bc] 37)).alloc (.cells #[] 5)) := (Below.refl _ _).alloc (by omega) _
            have D4b := fun (w4 : World) (h : Below (wo.heap.size + 1) (wo.alloc (.cells #[.int .i64 1, .int .i64 rr, .int .i64 nn, .slice ba b.length bc] 37)) w4) => (show Below (wo.alloc (.cells #[.int .i64 1, .int .i64 rr, .int .i64 nn, .slice ba b.length bc] 37)).heap.size (wo.alloc (.cells #[.int .i64 1, .int .i64 rr, .int .i64 nn, .slice ba b.length bc] 37)) w4 by rw [hs1]; exact h)
            have SB : Src ((wo.alloc (.cells #[.int .i64 1, .int .i64 rr, .int .i64 nn, .slice ba b.length bc] 37)).alloc (.cells #[] 5)) ko' (.slice ba b.length bc) b := hS'.frame ((E0.block ko' (by have := hPI.out.glt ko' hko'; have := U.size; omega)).trans (U.block ko' (hPI.out.glt ko' hko')))
            obtain ⟨v4, w4, g4, hrun4, A4, G4, K4⟩ := acc_append A0 SB hnS (by show 0 + _ ≤ _; omega)
            rw [List.nil_append] at A4
            have D4 : Below (wo.heap.size + 1) (wo.alloc (.cells #[.int .i64 1, .int .i64 rr, .int .i64 nn, .slice ba b.length bc] 37)) w4 := E0.trans (kp_below K4 (Nat.le_refl _) (by have := E0.size; omega))
            have hg4 : (wo.heap.size + 1) ≤ g4 := by rcases G4 with c | c; omega; have := E0.size; omega
            have hg4' := A4.lt
            obtain ⟨c4, rfl⟩ := A4.form
            have SB4 : Src w4 ko' (.slice ba b.length bc) b := SB.frame (K4.block ko' (by have := hPI.out.glt ko' hko'; have := U.size; have := E0.size; omega) (by have := hPI.out.glt ko' hko'; have := U.size; omega))
            have R4 := ER.below (D4b _ D4)
            have MA4 : Many (fun k => (G k ∨ (wo.heap.size ≤ k ∧ k < (wo.heap.size + 1))) ∨ k = bx) w w4 mb rs Ls m p := hP0.out.many.below (D4b _ D4)
            have P4 : PI w w4 (fun k => G k ∨ (wo.heap.size ≤ k ∧ k < (wo.heap.size + 1))) mb bx br rs Ls m p ya yc := R4.pi (fun _ _ => rfl) hP0.out.hx hP0.out.old MA4
            have HPUT : Hid (Calls Try.prog 8 #[.agg #[.int .i64 (tot Ls : Nat), .int .i64 (pst (tot Ls : Nat) p), .int .i64 m, .slice (some ⟨ya, 0, none⟩) 3 yc], .int .i64 j, .slice ba b.length bc] w4 fun e w' => ∃ xa' xc', e = .returned (.tuple #[.agg #[.int .i64 (tot (putL Ls j L b m) : Nat), .int .i64 (pst (tot (putL Ls j L b m) : Nat) p), .int .i64 m, .slice (some ⟨xa', 0, none⟩) 3 xc'], .bool (decide ((tot Ls : Int) + b.length ≤ m))]) ∧
              Mat (fun i => (G i ∨ (wo.heap.size ≤ i ∧ i < (wo.heap.size + 1))) ∨ (w4.heap.size ≤ i ∧ i < w'.heap.size)) w' (.slice (some ⟨xa', 0, none⟩) 3 xc') (putL Ls j L b m) ∧ (putL Ls j L b m).length = 3 ∧ Below w4.heap.size w4 w') := pi_put P4 j ko' L b _ hL SB4 (.inl hko')
            have x0 : w4.cell? ⟨bx, 0, none⟩ = some (.int .i64 (tot Ls : Nat)) := ring_cell P4.xb rfl
            have x1 : w4.cell? ⟨bx, 1, none⟩ = some (.int .i64 (pst (tot Ls : Nat) p)) := ring_cell P4.xb rfl
            have x2 : w4.cell? ⟨bx, 2, none⟩ = some (.int .i64 m) := ring_cell P4.xb rfl
            have x3 : w4.cell? ⟨bx, 3, none⟩ = some (.slice (some ⟨ya, 0, none⟩) 3 yc) := ring_cell P4.xb rfl
            have y3 : w4.cell? ⟨wo.heap.size, 3, none⟩ = some (.slice ba b.length bc) := (D4.cell (p := ⟨wo.heap.size, 3, none⟩) (by simp)).trans (ring_cell (new_at wo (.cells #[.int .i64 1, .int .i64 rr, .int .i64 nn, .slice ba b.length bc] 37)) rfl)
            have HER : Hid (RI w4 (fun k => G k ∨ (wo.heap.size ≤ k ∧ k < (wo.heap.size + 1))) bx br rs Ls m (pst (tot Ls : Nat) p) ya yc) := R4
            have HA4 : Hid (Acc w4 g4 (.slice (some ⟨g4, 0, none⟩) b.length c4) b) := A4
            have HD4 : Hid (Below (wo.heap.size + 1) (wo.alloc (.cells #[.int .i64 1, .int .i64 rr, .int .i64 nn, .slice ba b.length bc] 37)) w4) := D4
            have HU : Hid (Below wo.heap.size wo (wo.alloc (.cells #[.int .i64 1, .int .i64 rr, .int .i64 nn, .slice ba b.length bc] 37))) := U
            have HLS : Hid (Ls[j]? = some L) := hL
            clear D4b P4 MA4 R4 ER A4 D4 K4 G4 E0 A0 SB SB4 U hPI hS' hbel hL
            generalize hok : decide ((tot Ls : Int) + b.length ≤ m) = ok at *
            have HOK : Hid (decide ((tot Ls : Int) + b.length ≤ m) = ok) := hok
            clear hok
            go_wp2_with (at_builtin; refine wpList_append_run rfl _ _ 35 rfl _ _ _ w4 rfl rfl hrun4 ?_)
            refine HPUT.out.mono ?_
            rintro e w5 ⟨xa', xc', rfl, M5, l5, B5⟩
            have KS := HER.out.store (q' := pst (tot (putL Ls j L b m) : Nat) p) (o := .cells #[.int .i64 (tot (putL Ls j L b m) : Nat), .int .i64 (pst (tot (putL Ls j L b m) : Nat) p), .int .i64 m, .slice (some ⟨xa', 0, none⟩) 3 xc'] 33) B5 M5 l5
            obtain ⟨R7, K7, s7⟩ := KS
            have hb5 := (B5.block bx (heap_lt HER.out.xb)).trans HER.out.xb
            have hbx5 := heap_lt hb5
            have hbr5 : br < w5.heap.size := Nat.lt_of_lt_of_le (HER.out.glt br HER.out.gr) B5.size
            have hnbr : ¬ br = bx := fun e => HER.out.nb (e ▸ HER.out.gr)
            have hnbr' : ¬ bx = br := fun e => hnbr e.symm
            have e0 : w5.cell? ⟨bx, 0, none⟩ = some (.int .i64 (tot Ls : Nat)) := ring_cell hb5 rfl
            have e1 : w5.cell? ⟨bx, 1, none⟩ = some (.int .i64 (pst (tot Ls : Nat) p)) := ring_cell hb5 rfl
            have e2 : w5.cell? ⟨bx, 2, none⟩ = some (.int .i64 m) := ring_cell hb5 rfl
            have e3 : w5.cell? ⟨bx, 3, none⟩ = some (.slice (some ⟨ya, 0, none⟩) 3 yc) := ring_cell hb5 rfl
            have z0 : w5.frozen? ⟨bx, 0, none⟩ = false := ring_z hb5
            have z1 : w5.frozen? ⟨bx, 1, none⟩ = false := ring_z hb5
            have z2 : w5.frozen? ⟨bx, 2, none⟩ = false := ring_z hb5
            have z3 : w5.frozen? ⟨bx, 3, none⟩ = false := ring_z hb5
            have t5 : w5.cell? ⟨br, j, none⟩ = some (.pointer (some ⟨r, 0, none⟩)) := by
              have k := (B5.block br (HER.out.glt br HER.out.gr)).trans HER.out.rb
              refine ring_cell k ?_
              rw [List.getElem?_toArray, List.getElem?_map, hr]; rfl
            have hneg : ¬ g4 = bx := by omega
            have K7f : Kp (fun k => k = bx) (wo.alloc (.cells #[.int .i64 1, .int .i64 rr, .int .i64 nn, .slice ba b.length bc] 37)) _ := (Kp.ofBelow (show Below (wo.alloc (.cells #[.int .i64 1, .int .i64 rr, .int .i64 nn, .slice ba b.length bc] 37)).heap.size (wo.alloc (.cells #[.int .i64 1, .int .i64 rr, .int .i64 nn, .slice ba b.length bc] 37)) w4 by rw [hs1]; exact HD4.out)).then K7
            have s45 := B5.size
            have M7 : Many (fun k => (((G k ∨ (wo.heap.size ≤ k ∧ k < wo.heap.size + 1)) ∨ (w4.heap.size ≤ k ∧ k < w5.heap.size)) ∨ k = bx) ∨ k = g4) w _ mb rs Ls m p := hP0.out.many.step K7f (fun i hi => ⟨.inl (.inr hi), by rw [hi]; exact hP0.out.hx⟩) (fun i hi => by
              rcases hi with ((hi | hi) | hi) | hi
              · exact .inl (.inl hi)
              · exact .inr ⟨by omega, by omega⟩
              · exact .inl (.inr hi)
              · exact .inr ⟨by omega, by omega⟩)
            have A7 := HA4.out.frame (K7.block g4 hg4' hneg)
            have PUT := many_put j r g4 L b _ M7 hr HLS.out A7.src (.inr rfl)
            rw [HOK.out] at PUT
            have HPUT2 : Hid (Calls Try.prog 9 #[.pointer (some ⟨r, 0, none⟩), .slice (some ⟨g4, 0, none⟩) b.length c4] (((((w5.setCell ⟨bx, 0, none⟩ (.int .i64 (tot (putL Ls j L b m) : Nat))).setCell ⟨bx, 1, none⟩ (.int .i64 (pst (tot (putL Ls j L b m) : Nat) p))).setCell ⟨bx, 2, none⟩ (.int .i64 m)).setCell ⟨bx, 3, none⟩ (.slice (some ⟨xa', 0, none⟩) 3 xc')).alloc (.cells #[.int .i64 (tot (putL Ls j L b m) : Nat), .int .i64 (pst (tot (putL Ls j L b m) : Nat) p), .int .i64 m, .slice (some ⟨xa', 0, none⟩) 3 xc'] 33)) fun e w' => e = .returned (.bool ok) ∧ Many (fun k => (((G k ∨ (wo.heap.size ≤ k ∧ k < wo.heap.size + 1)) ∨ (w4.heap.size ≤ k ∧ k < w5.heap.size)) ∨ k = bx) ∨ k = g4) w w' mb rs (putL Ls j L b m) m p ∧ (∀ k, ((((G k ∨ (wo.heap.size ≤ k ∧ k < wo.heap.size + 1)) ∨ (w4.heap.size ≤ k ∧ k < w5.heap.size)) ∨ k = bx) ∨ k = g4) → w'.heap[k]? = ((((((w5.setCell ⟨bx, 0, none⟩ (.int .i64 (tot (putL Ls j L b m) : Nat))).setCell ⟨bx, 1, none⟩ (.int .i64 (pst (tot (putL Ls j L b m) : Nat) p))).setCell ⟨bx, 2, none⟩ (.int .i64 m)).setCell ⟨bx, 3, none⟩ (.slice (some ⟨xa', 0, none⟩) 3 xc')).alloc (.cells #[.int .i64 (tot (putL Ls j L b m) : Nat), .int .i64 (pst (tot (putL Ls j L b m) : Nat) p), .int .i64 m, .slice (some ⟨xa', 0, none⟩) 3 xc'] 33))).heap[k]?) ∧ ((((((w5.setCell ⟨bx, 0, none⟩ (.int .i64 (tot (putL Ls j L b m) : Nat))).setCell ⟨bx, 1, none⟩ (.int .i64 (pst (tot (putL Ls j L b m) : Nat) p))).setCell ⟨bx, 2, none⟩ (.int .i64 m)).setCell ⟨bx, 3, none⟩ (.slice (some ⟨xa', 0, none⟩) 3 xc')).alloc (.cells #[.int .i64 (tot (putL Ls j L b m) : Nat), .int .i64 (pst (tot (putL Ls j L b m) : Nat) p), .int .i64 m, .slice (some ⟨xa', 0, none⟩) 3 xc'] 33))).heap.size ≤ w'.heap.size) := PUT
            have HR7 : Hid (RI (((((w5.setCell ⟨bx, 0, none⟩ (.int .i64 (tot (putL Ls j L b m) : Nat))).setCell ⟨bx, 1, none⟩ (.int .i64 (pst (tot (putL Ls j L b m) : Nat) p))).setCell ⟨bx, 2, none⟩ (.int .i64 m)).setCell ⟨bx, 3, none⟩ (.slice (some ⟨xa', 0, none⟩) 3 xc')).alloc (.cells #[.int .i64 (tot (putL Ls j L b m) : Nat), .int .i64 (pst (tot (putL Ls j L b m) : Nat) p), .int .i64 m, .slice (some ⟨xa', 0, none⟩) 3 xc'] 33)) (fun k => (G k ∨ (wo.heap.size ≤ k ∧ k < wo.heap.size + 1)) ∨ (w4.heap.size ≤ k ∧ k < w5.heap.size)) bx br rs (putL Ls j L b m) m (pst (tot (putL Ls j L b m) : Nat) p) xa' xc') := R7
            have HW7 : Hid (Wrt (((((w5.setCell ⟨bx, 0, none⟩ (.int .i64 (tot (putL Ls j L b m) : Nat))).setCell ⟨bx, 1, none⟩ (.int .i64 (pst (tot (putL Ls j L b m) : Nat) p))).setCell ⟨bx, 2, none⟩ (.int .i64 m)).setCell ⟨bx, 3, none⟩ (.slice (some ⟨xa', 0, none⟩) 3 xc')).alloc (.cells #[.int .i64 (tot (putL Ls j L b m) : Nat), .int .i64 (pst (tot (putL Ls j L b m) : Nat) p), .int .i64 m, .slice (some ⟨xa', 0, none⟩) 3 xc'] 33)) g4 b.length) := A7.wrt
            clear PUT A7 M7 K7f R7 K7 M5 B5 HPUT HER HA4 hb5 x0 x1 x2 x3 y3 hrun4 s7
            have hLz : (putL Ls j L b m)[j]? = some (if (tot Ls : Int) + b.length ≤ m then L ++ b else L) := by
              unfold putL
              split
              · rw [List.getElem?_set_self (List.getElem?_eq_some_iff.1 HLS.out).1]
              · exact HLS.out
            have HLZ : Hid (∃ L', (putL Ls j L b m)[j]? = some L') := ⟨_, hLz⟩
            clear hLz
            have HOLD : Hid (w.heap.size ≤ bx ∧ (∀ k, k < w.heap.size → G k) ∧ ∀ k, G k → k < wo.heap.size) := ⟨hP0.out.hx, HG1.out, HG2.out⟩
            clear hP0
            generalize putL Ls j L b m = Ls' at *
            go_wp2_with fail
            refine HPUT2.out.mono ?_
            rintro e w8 ⟨rfl, M8, F8, s8⟩
            have HM8 : Hid (Many (fun k => (((G k ∨ (wo.heap.size ≤ k ∧ k < wo.heap.size + 1)) ∨ (w4.heap.size ≤ k ∧ k < w5.heap.size)) ∨ k = bx) ∨ k = g4) w w8 mb rs Ls' m p) := M8
            have HW8 : Hid (Wrt w8 g4 b.length) := HW7.out.frame (F8 g4 (.inr rfl))
            have HF8 : Hid (∀ k, ((((G k ∨ (wo.heap.size ≤ k ∧ k < wo.heap.size + 1)) ∨ (w4.heap.size ≤ k ∧ k < w5.heap.size)) ∨ k = bx) ∨ k = g4) → w8.heap[k]? = ((((((w5.setCell ⟨bx, 0, none⟩ (.int .i64 (tot (Ls') : Nat))).setCell ⟨bx, 1, none⟩ (.int .i64 (pst (tot (Ls') : Nat) p))).setCell ⟨bx, 2, none⟩ (.int .i64 m)).setCell ⟨bx, 3, none⟩ (.slice (some ⟨xa', 0, none⟩) 3 xc')).alloc (.cells #[.int .i64 (tot (Ls') : Nat), .int .i64 (pst (tot (Ls') : Nat) p), .int .i64 m, .slice (some ⟨xa', 0, none⟩) 3 xc'] 33))).heap[k]?) := F8
            clear M8 F8 s8 HPUT2 HW7 e0 e1 e2 e3 z0 z1 z2 z3 t5
            go_wp2_with fail
            go_loopw [89] (fun vi wx => ∃ t : Nat, t ≤ b.length ∧ vi = .int .i64 t ∧ Hid (Kp (fun k => k = g4) w8 wx) ∧ Hid (Wrt wx g4 b.length)) (fun vi _ => b.length - (intOf vi).toNat)
            case atStart => exact ⟨0, Nat.zero_le _, rfl, Kp.refl _ _, HW8⟩
            case round =>
              obtain ⟨t, ht, rfl, hK, hW⟩ := hrel
              by_cases htb : t < b.length
              · obtain ⟨z, hz⟩ := hW.out.cell htb
                have hfz : wr.frozen? ⟨g4, t, none⟩ = false := hW.out.z
                have HST : Hid (∀ y, Kp (fun k => k = g4) w8 (wr.setCell ⟨g4, t, none⟩ (.int .u8 y)) ∧ Wrt (wr.setCell ⟨g4, t, none⟩ (.int .u8 y)) g4 b.length) := fun y => ⟨hK.out.then (Kp.set _ g4 t _ rfl), hW.out.set y⟩
                clear hK hW
                go_wp2
                go_roundw
                case rel => exact ⟨t + 1, by omega, by go_num, (HST.out _).1, (HST.out _).2⟩
                case measure => simp [intOf]; omega
              · obtain ⟨L', hLz⟩ := HLZ.out
                have PIx : Hid (PI w wr (fun k => (G k ∨ (wo.heap.size ≤ k ∧ k < wo.heap.size + 1)) ∨ (w4.heap.size ≤ k ∧ k < w5.heap.size)) mb bx br rs Ls' m p xa' xc') := by
                  have hlt := HOLD.out.2.2
                  have hne : ∀ k, (((G k ∨ (wo.heap.size ≤ k ∧ k < wo.heap.size + 1)) ∨ (w4.heap.size ≤ k ∧ k < w5.heap.size)) ∨ k = bx) → ¬ k = g4 := fun k hk e => by
                    subst e
                    rcases hk with ((hk | hk) | hk) | hk
                    · have := hlt k hk; omega
                    · omega
                    · omega
                    · omega
                  have hF := HM8.out.flt
                  refine HR7.out.pi (fun k hk => (hK.out.block k (hF k (.inl hk)) (hne k hk)).trans (HF8.out k (.inl hk))) HOLD.out.1 (fun k hk => .inl (.inl (HOLD.out.2.1 k hk))) (HM8.out.step hK.out (fun i hi => ⟨.inl (.inr hi), by have := HOLD.out.1; omega⟩) (fun i hi => .inl (.inl hi)))
                clear HM8 HF8 HR7 HW8 hK hW HOLD
                have hB9 := PIx.out.many.bel
                have HH : Hid (∀ n, Calls Try.prog 15 #[.pointer (some ⟨mb, 0, none⟩)] (wr.drewN n) fun e w' => e = .returned (.int .i64 (tot Ls' : Nat)) ∧ w' = wr.drewN n) := fun n => held_q mb _ _ _ _ (PIx.out.many.drewN n).isM
                have HP : Hid (∀ n, Calls Try.prog 16 #[.pointer (some ⟨mb, 0, none⟩)] (wr.drewN n) fun e w' => e = .returned (.int .i64 (pst (tot Ls' : Nat) p)) ∧ w' = wr.drewN n) := fun n => peak_q mb _ _ _ _ _ (PIx.out.many.drewN n).isM rfl
                have HLN : Hid (∀ n, Calls Try.prog 17 #[.pointer (some ⟨r, 0, none⟩)] (wr.drewN n) fun e w' => e = .returned (.int .i64 L'.length) ∧ w' = wr.drewN n) := fun n => many_len j r L' (PIx.out.many.drewN n) hr hLz
                have t0 : wr.cell? ⟨bx, 0, none⟩ = some (.int .i64 (tot Ls' : Nat)) := ring_cell PIx.out.xb rfl
                have t1 : wr.cell? ⟨bx, 1, none⟩ = some (.int .i64 (pst (tot Ls' : Nat) p)) := ring_cell PIx.out.xb rfl
                have t3 : wr.cell? ⟨bx, 3, none⟩ = some (.slice (some ⟨xa', 0, none⟩) 3 xc') := ring_cell PIx.out.xb rfl
                have tr := PIx.out.ring j r hr
                obtain ⟨sa9, sc9, tg⟩ : ∃ sa sc, wr.cell? ⟨xa', j, none⟩ = some (.slice sa L'.length sc) := by
                  obtain ⟨hjl, hje⟩ := List.getElem?_eq_some_iff.1 hLz
                  obtain ⟨b', c', k', sa, sc, q1, q2, q3, _⟩ := PIx.out.mat.at j hjl
                  have q4 : b' = xa' := by
                    obtain ⟨z, _, _⟩ := slice_inj q1
                    simpa using z.symm
                  subst q4
                  rw [hje] at q3
                  exact ⟨sa, sc, q3⟩
                have HPX : Hid (∀ n, ∃ G, PI w (wr.drewN n) G mb bx br rs Ls' m p xa' xc') := fun n => ⟨_, PIx.out.below ((But.drewN wr.heap.size n wr).below (Nat.le_refl _))⟩
                have HBZ : Hid (wr.heap.size = wr.heap.size) := rfl
                clear PIx hLz hB9
                generalize ((tot Ls' : Nat) : Int) = tt at *
                generalize pst tt p = pq at *
                generalize L'.length = l9 at *
                go_wp2_with fail
                go_quiet (first | (go_at_call 15; exact Calls.quiet_of_same (HH.out _)) | (go_at_call 16; exact Calls.quiet_of_same (HP.out _)) | (go_at_call 17; exact Calls.quiet_of_same (HLN.out _)))
                go_wp2
                go_roundw
                case rel =>
                  obtain ⟨G', hG'⟩ := HPX.out nq
                  exact ⟨i + 1, u + (mn + 10), G', Ls', p, xa', xc', by omega, by go_num, by go_num, by omega, hG'⟩
                case measure => simp [intOf]; omega
        · by_cases hk2 : kd = 2
          · subst hk2
            as_aux_lemma =>
              have hN := clp_le nn L.length
              have hbx0 := heap_lt hP0.out.xb
              have HTK := pi_take hP0.out j L nn hL
              have MTK := fun (W : World) (G' : Nat → Prop) (h : Many G' w W mb rs Ls m p) => many_take j r L nn h hr hL
              have hLs : (Ls.set j (L.drop (clp nn L.length)))[j]? = some (L.drop (clp nn L.length)) := List.getElem?_set_self (List.getElem?_eq_some_iff.1 hL).1
              have hTl : (L.take (clp nn L.length)).length = clp nn L.length := by rw [List.length_take]; omega
              have hLb : L.length ≤ 1099511627776 := by have := tot_ge Ls j L hL; have := hP0.out.many.fit; have := hP0.out.many.top; omega
              have hN2 : clp nn L.length ≤ 1099511627776 := by omega
              have HTL : Hid ((L.take (clp nn L.length)).length = clp nn L.length) := hTl
              have HLZ : Hid (∃ L', (Ls.set j (L.drop (clp nn L.length)))[j]? = some L') := ⟨_, hLs⟩
              clear hTl hLs hLb hN
              generalize clp nn L.length = N at *
              generalize Ls.set j (L.drop N) = Ls' at *
              generalize gvP (tot Ls : Nat) p (N : Int) = p' at *
              generalize L.take N = TK at *
              have x0 : wo.cell? ⟨bx, 0, none⟩ = some (.int .i64 (tot Ls : Nat)) := ring_cell hPI.out.xb rfl
              have x1 : wo.cell? ⟨bx, 1, none⟩ = some (.int .i64 (pst (tot Ls : Nat) p)) := ring_cell hPI.out.xb rfl
              have x2 : wo.cell? ⟨bx, 2, none⟩ = some (.int .i64 m) := ring_cell hPI.out.xb rfl
              have x3 : wo.cell? ⟨bx, 3, none⟩ = some (.slice (some ⟨ya, 0, none⟩) 3 yc) := ring_cell hPI.out.xb rfl
              have hbxw := heap_lt hPI.out.xb
              have HTKH : Hid (Calls Try.prog 10 #[.agg #[.int .i64 (tot Ls : Nat), .int .i64 (pst (tot Ls : Nat) p), .int .i64 m, .slice (some ⟨ya, 0, none⟩) 3 yc], .int .i64 j, .int .i64 nn] (wo.alloc (.cells #[.int .i64 2, .int .i64 rr, .int .i64 nn, .slice ba b.length bc] 37)) fun e w' => ∃ xa' xc' oa oc ko, e = .returned (.tuple #[.agg #[.int .i64 (tot Ls' : Nat), .int .i64 (pst (tot Ls' : Nat) p'), .int .i64 m, .slice (some ⟨xa', 0, none⟩) 3 xc'], .slice oa N oc]) ∧ (fun k => (G k ∨ (wo.heap.size ≤ k ∧ k < wo.heap.size + 1))) ko ∧ Src w' ko (.slice oa N oc) TK ∧ Mat (fun i => (fun k => (G k ∨ (wo.heap.size ≤ k ∧ k < wo.heap.size + 1))) i ∨ ((wo.alloc (.cells #[.int .i64 2, .int .i64 rr, .int .i64 nn, .slice ba b.length bc] 37)).heap.size ≤ i ∧ i < w'.heap.size)) w' (.slice (some ⟨xa', 0, none⟩) 3 xc') Ls' ∧ Ls'.length = 3 ∧ Below (wo.alloc (.cells #[.int .i64 2, .int .i64 rr, .int .i64 nn, .slice ba b.length bc] 37)).heap.size (wo.alloc (.cells #[.int .i64 2, .int .i64 rr, .int .i64 nn, .slice ba b.length bc] 37)) w') := HTK
              have HMTK : Hid (∀ (W : World) (G' : Nat → Prop) (h : Many G' w W mb rs Ls m p), Calls Try.prog 11 #[.pointer (some ⟨r, 0, none⟩), .int .i64 nn] W fun e w' => ∃ g, e = .returned (.slice (some ⟨g, 0, none⟩) N N) ∧ W.heap.size ≤ g ∧
                    w'.heap[g]? = some (.cells (rowB TK).toArray 5) ∧ Many (fun k => G' k ∨ k = g) w w' mb rs Ls' m p' ∧ (∀ k, G' k → w'.heap[k]? = W.heap[k]?) ∧ W.heap.size ≤ w'.heap.size) := MTK
              have HP0R : Hid (PI w (wo.alloc (.cells #[.int .i64 2, .int .i64 rr, .int .i64 nn, .slice ba b.length bc] 37)) (fun k => (G k ∨ (wo.heap.size ≤ k ∧ k < wo.heap.size + 1))) mb bx br rs Ls m p ya yc) := hP0
              clear HTK MTK hPI hS' hko' U hbel hL hP0
              go_wp2_with fail
              refine HTKH.out.mono ?_
              rintro e w5 ⟨xa', xc', oa, oc, ko5, rfl, hko5, S5, M5, l5, B5⟩
              have KS := HP0R.out.ri.store (q' := pst (tot Ls' : Nat) p') (o := .cells #[.int .i64 (tot Ls' : Nat), .int .i64 (pst (tot Ls' : Nat) p'), .int .i64 m, .slice (some ⟨xa', 0, none⟩) 3 xc'] 33) B5 M5 l5
              obtain ⟨R7, K7, s7⟩ := KS
              rw [hs1] at R7
              have hb5 := (B5.block bx (heap_lt HP0R.out.xb)).trans HP0R.out.xb
              have hbx5 := heap_lt hb5
              have hbrl := HP0R.out.glt br HP0R.out.gr
              have hbr5 : br < w5.heap.size := Nat.lt_of_lt_of_le hbrl B5.size
              have hnbr : ¬ br = bx := fun e => HP0R.out.nb (e ▸ HP0R.out.gr)
              have hnbr' : ¬ bx = br := fun e => hnbr e.symm
              have hwo5 : wo.heap.size < w5.heap.size := by have := B5.size; omega
              have hnwo : ¬ wo.heap.size = bx := by omega
              have hnwo' : ¬ bx = wo.heap.size := by omega
              have e0 : w5.cell? ⟨bx, 0, none⟩ = some (.int .i64 (tot Ls : Nat)) := ring_cell hb5 rfl
              have e1 : w5.cell? ⟨bx, 1, none⟩ = some (.int .i64 (pst (tot Ls : Nat) p)) := ring_cell hb5 rfl
              have e2 : w5.cell? ⟨bx, 2, none⟩ = some (.int .i64 m) := ring_cell hb5 rfl
              have e3 : w5.cell? ⟨bx, 3, none⟩ = some (.slice (some ⟨ya, 0, none⟩) 3 yc) := ring_cell hb5 rfl
              have z0 : w5.frozen? ⟨bx, 0, none⟩ = false := ring_z hb5
              have z1 : w5.frozen? ⟨bx, 1, none⟩ = false := ring_z hb5
              have z2 : w5.frozen? ⟨bx, 2, none⟩ = false := ring_z hb5
              have z3 : w5.frozen? ⟨bx, 3, none⟩ = false := ring_z hb5
              have t5 : w5.cell? ⟨br, j, none⟩ = some (.pointer (some ⟨r, 0, none⟩)) := by
                have k := (B5.block br hbrl).trans HP0R.out.rb
                refine ring_cell k ?_
                rw [List.getElem?_toArray, List.getElem?_map, hr]; rfl
              have t6 : w5.cell? ⟨wo.heap.size, 2, none⟩ = some (.int .i64 nn) := (B5.cell (p := ⟨wo.heap.size, 2, none⟩) (by show wo.heap.size < _; omega)).trans (ring_cell (new_at wo (.cells #[.int .i64 2, .int .i64 rr, .int .i64 nn, .slice ba b.length bc] 37)) rfl)
              have s45 := B5.size
              have M7 : Many (fun k => ((G k ∨ (wo.heap.size ≤ k ∧ k < wo.heap.size + 1)) ∨ (wo.heap.size + 1 ≤ k ∧ k < w5.heap.size)) ∨ k = bx) w (((((w5.setCell ⟨bx, 0, none⟩ (.int .i64 (tot (Ls') : Nat))).setCell ⟨bx, 1, none⟩ (.int .i64 (pst (tot (Ls') : Nat) p'))).setCell ⟨bx, 2, none⟩ (.int .i64 m)).setCell ⟨bx, 3, none⟩ (.slice (some ⟨xa', 0, none⟩) 3 xc')).alloc (.cells #[.int .i64 (tot (Ls') : Nat), .int .i64 (pst (tot (Ls') : Nat) p'), .int .i64 m, .slice (some ⟨xa', 0, none⟩) 3 xc'] 33)) mb rs Ls m p := HP0R.out.many.step K7 (fun i hi => ⟨.inl (.inr hi), by rw [hi]; exact HP0R.out.hx⟩) (fun i hi => by
                rcases hi with (hi | hi) | hi
                · exact .inl (.inl hi)
                · exact .inr ⟨by omega, by omega⟩
                · exact .inl (.inr hi))
              have c7 := K7.block
              have HR7 : Hid (RI (((((w5.setCell ⟨bx, 0, none⟩ (.int .i64 (tot (Ls') : Nat))).setCell ⟨bx, 1, none⟩ (.int .i64 (pst (tot (Ls') : Nat) p'))).setCell ⟨bx, 2, none⟩ (.int .i64 m)).setCell ⟨bx, 3, none⟩ (.slice (some ⟨xa', 0, none⟩) 3 xc')).alloc (.cells #[.int .i64 (tot (Ls') : Nat), .int .i64 (pst (tot (Ls') : Nat) p'), .int .i64 m, .slice (some ⟨xa', 0, none⟩) 3 xc'] 33)) (fun k => (G k ∨ (wo.heap.size ≤ k ∧ k < wo.heap.size + 1)) ∨ (wo.heap.size + 1 ≤ k ∧ k < w5.heap.size)) bx br rs Ls' m (pst (tot Ls' : Nat) p') xa' xc') := R7
              have hklt := HP0R.out.glt ko5 hko5
              have S7 : Src (((((w5.setCell ⟨bx, 0, none⟩ (.int .i64 (tot (Ls') : Nat))).setCell ⟨bx, 1, none⟩ (.int .i64 (pst (tot (Ls') : Nat) p'))).setCell ⟨bx, 2, none⟩ (.int .i64 m)).setCell ⟨bx, 3, none⟩ (.slice (some ⟨xa', 0, none⟩) 3 xc')).alloc (.cells #[.int .i64 (tot (Ls') : Nat), .int .i64 (pst (tot (Ls') : Nat) p'), .int .i64 m, .slice (some ⟨xa', 0, none⟩) 3 xc'] 33)) ko5 (.slice oa N oc) TK := S5.frame (by
                have q1 : ((((((w5.setCell ⟨bx, 0, none⟩ (.int .i64 (tot (Ls') : Nat))).setCell ⟨bx, 1, none⟩ (.int .i64 (pst (tot (Ls') : Nat) p'))).setCell ⟨bx, 2, none⟩ (.int .i64 m)).setCell ⟨bx, 3, none⟩ (.slice (some ⟨xa', 0, none⟩) 3 xc')).alloc (.cells #[.int .i64 (tot (Ls') : Nat), .int .i64 (pst (tot (Ls') : Nat) p'), .int .i64 m, .slice (some ⟨xa', 0, none⟩) 3 xc'] 33))).heap[ko5]? = _ := K7.block ko5 (by omega) (fun e => HP0R.out.nb (e ▸ hko5))
                rw [q1, B5.block ko5 (by omega)])
              have T7 : ∀ W, Below ((((((w5.setCell ⟨bx, 0, none⟩ (.int .i64 (tot (Ls') : Nat))).setCell ⟨bx, 1, none⟩ (.int .i64 (pst (tot (Ls') : Nat) p'))).setCell ⟨bx, 2, none⟩ (.int .i64 m)).setCell ⟨bx, 3, none⟩ (.slice (some ⟨xa', 0, none⟩) 3 xc')).alloc (.cells #[.int .i64 (tot (Ls') : Nat), .int .i64 (pst (tot (Ls') : Nat) p'), .int .i64 m, .slice (some ⟨xa', 0, none⟩) 3 xc'] 33))).heap.size (((((w5.setCell ⟨bx, 0, none⟩ (.int .i64 (tot (Ls') : Nat))).setCell ⟨bx, 1, none⟩ (.int .i64 (pst (tot (Ls') : Nat) p'))).setCell ⟨bx, 2, none⟩ (.int .i64 m)).setCell ⟨bx, 3, none⟩ (.slice (some ⟨xa', 0, none⟩) 3 xc')).alloc (.cells #[.int .i64 (tot (Ls') : Nat), .int .i64 (pst (tot (Ls') : Nat) p'), .int .i64 m, .slice (some ⟨xa', 0, none⟩) 3 xc'] 33)) W → Calls Try.prog 11 #[.pointer (some ⟨r, 0, none⟩), .int .i64 nn] W fun e w' => ∃ g, e = .returned (.slice (some ⟨g, 0, none⟩) N N) ∧ ((((((w5.setCell ⟨bx, 0, none⟩ (.int .i64 (tot (Ls') : Nat))).setCell ⟨bx, 1, none⟩ (.int .i64 (pst (tot (Ls') : Nat) p'))).setCell ⟨bx, 2, none⟩ (.int .i64 m)).setCell ⟨bx, 3, none⟩ (.slice (some ⟨xa', 0, none⟩) 3 xc')).alloc (.cells #[.int .i64 (tot (Ls') : Nat), .int .i64 (pst (tot (Ls') : Nat) p'), .int .i64 m, .slice (some ⟨xa', 0, none⟩) 3 xc'] 33))).heap.size ≤ g ∧ Src w' g (.slice (some ⟨g, 0, none⟩) N N) TK ∧ Wrt w' g N ∧ Src w' ko5 (.slice oa N oc) TK ∧ Many (fun k => (((G k ∨ (wo.heap.size ≤ k ∧ k < wo.heap.size + 1)) ∨ (wo.heap.size + 1 ≤ k ∧ k < w5.heap.size)) ∨ k = bx) ∨ k = g) w w' mb rs Ls' m p' ∧ (∀ k, (((G k ∨ (wo.heap.size ≤ k ∧ k < wo.heap.size + 1)) ∨ (wo.heap.size + 1 ≤ k ∧ k < w5.heap.size)) ∨ k = bx) → w'.heap[k]? = ((((((w5.setCell ⟨bx, 0, none⟩ (.int .i64 (tot (Ls') : Nat))).setCell ⟨bx, 1, none⟩ (.int .i64 (pst (tot (Ls') : Nat) p'))).setCell ⟨bx, 2, none⟩ (.int .i64 m)).setCell ⟨bx, 3, none⟩ (.slice (some ⟨xa', 0, none⟩) 3 xc')).alloc (.cells #[.int .i64 (tot (Ls') : Nat), .int .i64 (pst (tot (Ls') : Nat) p'), .int .i64 m, .slice (some ⟨xa', 0, none⟩) 3 xc'] 33))).heap[k]?) ∧ w'.cell? ⟨br, j, none⟩ = some (.pointer (some ⟨r, 0, none⟩)) ∧ w'.cell? ⟨wo.heap.size, 2, none⟩ = some (.int .i64 nn) := by
                intro W hW
                refine (HMTK.out W _ (M7.below hW)).mono ?_
                rintro e w' ⟨g, rfl, q1, q2, q3, q4, q5⟩
                have q6 : ∀ k, (((G k ∨ (wo.heap.size ≤ k ∧ k < wo.heap.size + 1)) ∨ (wo.heap.size + 1 ≤ k ∧ k < w5.heap.size)) ∨ k = bx) → w'.heap[k]? = ((((((w5.setCell ⟨bx, 0, none⟩ (.int .i64 (tot (Ls') : Nat))).setCell ⟨bx, 1, none⟩ (.int .i64 (pst (tot (Ls') : Nat) p'))).setCell ⟨bx, 2, none⟩ (.int .i64 m)).setCell ⟨bx, 3, none⟩ (.slice (some ⟨xa', 0, none⟩) 3 xc')).alloc (.cells #[.int .i64 (tot (Ls') : Nat), .int .i64 (pst (tot (Ls') : Nat) p'), .int .i64 m, .slice (some ⟨xa', 0, none⟩) 3 xc'] 33))).heap[k]? := fun k hk => (q4 k hk).trans (hW.block k (M7.flt k hk))
                have q7 : Wrt w' g N := by
                  have := Wrt.row q2
                  rwa [HTL.out] at this
                refine ⟨g, rfl, Nat.le_trans hW.size q1, src_row q2 HTL.out (by unfold maxLen; omega), q7, S7.frame (q6 ko5 (.inl (.inl hko5))), q3, q6, ?_, ?_⟩
                · refine ring_cell ((q6 br (.inl (.inl HP0R.out.gr))).trans HR7.out.rb) ?_
                  rw [List.getElem?_toArray, List.getElem?_map, hr]; rfl
                · have q8 := (q6 wo.heap.size (.inl (.inl (.inr ⟨Nat.le_refl _, by omega⟩)))).trans (K7.block wo.heap.size (by omega) hnwo)
                  exact ring_cell (q8.trans (new_at wo (.cells #[.int .i64 2, .int .i64 rr, .int .i64 nn, .slice ba b.length bc] 37))) rfl
              have HT7 : Hid (∀ W, Below ((((((w5.setCell ⟨bx, 0, none⟩ (.int .i64 (tot (Ls') : Nat))).setCell ⟨bx, 1, none⟩ (.int .i64 (pst (tot (Ls') : Nat) p'))).setCell ⟨bx, 2, none⟩ (.int .i64 m)).setCell ⟨bx, 3, none⟩ (.slice (some ⟨xa', 0, none⟩) 3 xc')).alloc (.cells #[.int .i64 (tot (Ls') : Nat), .int .i64 (pst (tot (Ls') : Nat) p'), .int .i64 m, .slice (some ⟨xa', 0, none⟩) 3 xc'] 33))).heap.size (((((w5.setCell ⟨bx, 0, none⟩ (.int .i64 (tot (Ls') : Nat))).setCell ⟨bx, 1, none⟩ (.int .i64 (pst (tot (Ls') : Nat) p'))).setCell ⟨bx, 2, none⟩ (.int .i64 m)).setCell ⟨bx, 3, none⟩ (.slice (some ⟨xa', 0, none⟩) 3 xc')).alloc (.cells #[.int .i64 (tot (Ls') : Nat), .int .i64 (pst (tot (Ls') : Nat) p'), .int .i64 m, .slice (some ⟨xa', 0, none⟩) 3 xc'] 33)) W → Calls Try.prog 11 #[.pointer (some ⟨r, 0, none⟩), .int .i64 nn] W fun e w' => ∃ g, e = .returned (.slice (some ⟨g, 0, none⟩) N N) ∧ Hid (((((((w5.setCell ⟨bx, 0, none⟩ (.int .i64 (tot (Ls') : Nat))).setCell ⟨bx, 1, none⟩ (.int .i64 (pst (tot (Ls') : Nat) p'))).setCell ⟨bx, 2, none⟩ (.int .i64 m)).setCell ⟨bx, 3, none⟩ (.slice (some ⟨xa', 0, none⟩) 3 xc')).alloc (.cells #[.int .i64 (tot (Ls') : Nat), .int .i64 (pst (tot (Ls') : Nat) p'), .int .i64 m, .slice (some ⟨xa', 0, none⟩) 3 xc'] 33))).heap.size ≤ g) ∧ Hid (Src w' g (.slice (some ⟨g, 0, none⟩) N N) TK) ∧ Hid (Wrt w' g N) ∧ Hid (Src w' ko5 (.slice oa N oc) TK) ∧ Hid (Many (fun k => (((G k ∨ (wo.heap.size ≤ k ∧ k < wo.heap.size + 1)) ∨ (wo.heap.size + 1 ≤ k ∧ k < w5.heap.size)) ∨ k = bx) ∨ k = g) w w' mb rs Ls' m p') ∧ Hid (∀ k, (((G k ∨ (wo.heap.size ≤ k ∧ k < wo.heap.size + 1)) ∨ (wo.heap.size + 1 ≤ k ∧ k < w5.heap.size)) ∨ k = bx) → w'.heap[k]? = ((((((w5.setCell ⟨bx, 0, none⟩ (.int .i64 (tot (Ls') : Nat))).setCell ⟨bx, 1, none⟩ (.int .i64 (pst (tot (Ls') : Nat) p'))).setCell ⟨bx, 2, none⟩ (.int .i64 m)).setCell ⟨bx, 3, none⟩ (.slice (some ⟨xa', 0, none⟩) 3 xc')).alloc (.cells #[.int .i64 (tot (Ls') : Nat), .int .i64 (pst (tot (Ls') : Nat) p'), .int .i64 m, .slice (some ⟨xa', 0, none⟩) 3 xc'] 33))).heap[k]?) ∧ w'.cell? ⟨br, j, none⟩ = some (.pointer (some ⟨r, 0, none⟩)) ∧ w'.cell? ⟨wo.heap.size, 2, none⟩ = some (.int .i64 nn)) := T7
              have I0 := Below.refl ((((((w5.setCell ⟨bx, 0, none⟩ (.int .i64 (tot (Ls') : Nat))).setCell ⟨bx, 1, none⟩ (.int .i64 (pst (tot (Ls') : Nat) p'))).setCell ⟨bx, 2, none⟩ (.int .i64 m)).setCell ⟨bx, 3, none⟩ (.slice (some ⟨xa', 0, none⟩) 3 xc')).alloc (.cells #[.int .i64 (tot (Ls') : Nat), .int .i64 (pst (tot (Ls') : Nat) p'), .int .i64 m, .slice (some ⟨xa', 0, none⟩) 3 xc'] 33))).heap.size (((((w5.setCell ⟨bx, 0, none⟩ (.int .i64 (tot (Ls') : Nat))).setCell ⟨bx, 1, none⟩ (.int .i64 (pst (tot (Ls') : Nat) p'))).setCell ⟨bx, 2, none⟩ (.int .i64 m)).setCell ⟨bx, 3, none⟩ (.slice (some ⟨xa', 0, none⟩) 3 xc')).alloc (.cells #[.int .i64 (tot (Ls') : Nat), .int .i64 (pst (tot (Ls') : Nat) p'), .int .i64 m, .slice (some ⟨xa', 0, none⟩) 3 xc'] 33))
              have HFL : Hid (∀ k, (((G k ∨ (wo.heap.size ≤ k ∧ k < wo.heap.size + 1)) ∨ (wo.heap.size + 1 ≤ k ∧ k < w5.heap.size)) ∨ k = bx) → k < ((((((w5.setCell ⟨bx, 0, none⟩ (.int .i64 (tot (Ls') : Nat))).setCell ⟨bx, 1, none⟩ (.int .i64 (pst (tot (Ls') : Nat) p'))).setCell ⟨bx, 2, none⟩ (.int .i64 m)).setCell ⟨bx, 3, none⟩ (.slice (some ⟨xa', 0, none⟩) 3 xc')).alloc (.cells #[.int .i64 (tot (Ls') : Nat), .int .i64 (pst (tot (Ls') : Nat) p'), .int .i64 m, .slice (some ⟨xa', 0, none⟩) 3 xc'] 33))).heap.size) := M7.flt
              have HOLD : Hid (w.heap.size ≤ bx ∧ (∀ k, k < w.heap.size → G k)) := ⟨HP0R.out.hx, HG1.out⟩
              have i0 : ((((((w5.setCell ⟨bx, 0, none⟩ (.int .i64 (tot (Ls') : Nat))).setCell ⟨bx, 1, none⟩ (.int .i64 (pst (tot (Ls') : Nat) p'))).setCell ⟨bx, 2, none⟩ (.int .i64 m)).setCell ⟨bx, 3, none⟩ (.slice (some ⟨xa', 0, none⟩) 3 xc')).alloc (.cells #[.int .i64 (tot (Ls') : Nat), .int .i64 (pst (tot (Ls') : Nat) p'), .int .i64 m, .slice (some ⟨xa', 0, none⟩) 3 xc'] 33))).cell? ⟨br, j, none⟩ = some (.pointer (some ⟨r, 0, none⟩)) := by
                refine ring_cell HR7.out.rb ?_
                rw [List.getElem?_toArray, List.getElem?_map, hr]; rfl
              have i1 : ((((((w5.setCell ⟨bx, 0, none⟩ (.int .i64 (tot (Ls') : Nat))).setCell ⟨bx, 1, none⟩ (.int .i64 (pst (tot (Ls') : Nat) p'))).setCell ⟨bx, 2, none⟩ (.int .i64 m)).setCell ⟨bx, 3, none⟩ (.slice (some ⟨xa', 0, none⟩) 3 xc')).alloc (.cells #[.int .i64 (tot (Ls') : Nat), .int .i64 (pst (tot (Ls') : Nat) p'), .int .i64 m, .slice (some ⟨xa', 0, none⟩) 3 xc'] 33))).cell? ⟨wo.heap.size, 2, none⟩ = some (.int .i64 nn) := ring_cell ((K7.block wo.heap.size (by omega) hnwo).trans (new_at wo (.cells #[.int .i64 2, .int .i64 rr, .int .i64 nn, .slice ba b.length bc] 37))) rfl
              clear T7 S7 M7 R7 K7 c7 S5 M5 B5 HTKH HP0R hb5 x0 x1 x2 x3
              go_wp2_with fail
              go_region_held3 (fun W => W.cell? ⟨br, j, none⟩ = some (.pointer (some ⟨r, 0, none⟩)) ∧ W.cell? ⟨wo.heap.size, 2, none⟩ = some (.int .i64 nn)) (go_keep) (first | (go_at_call 11; refine (HT7.out _ (by first | assumption | exact Below.drew I0 | exact Below.drew (by assumption))).mono ?_; rintro e w8 ⟨g, rfl, hg, hS8, hW8, hK8, hM8, hF8, hs0, hs9⟩))
              have HSB : Hid (Calls Try.prog 12 #[.slice (some ⟨g, 0, none⟩) N N, .slice oa N oc] w8 fun e w' => e = .returned (.bool true) ∧ Below w8.heap.size w8 w') := sameBytes_eq TK _ _ _ _ w8 hS8.out hK8.out
              clear hS8 hK8 hs0 hs9 i0 i1 I0 HT7 e0 e1 e2 e3 z0 z1 z2 z3 t5 t6
              go_wp2_with fail
              refine HSB.out.mono ?_
              rintro e w9 ⟨rfl, B9⟩
              have HB9 : Hid (Below w8.heap.size w8 w9) := B9
              have hgl8 : g < w8.heap.size := hM8.out.flt g (.inr rfl)
              have HW9 : Hid (Wrt w9 g N) := hW8.out.frame (B9.block g hgl8)
              clear HSB B9 hW8
              go_wp2_with fail
              go_loopw [123] (fun vi wx => ∃ t : Nat, t ≤ N ∧ vi = .int .i64 t ∧ Hid (Kp (fun k => k = g) w9 wx) ∧ Hid (Wrt wx g N)) (fun vi _ => N - (intOf vi).toNat)
              case atStart => exact ⟨0, Nat.zero_le _, rfl, Kp.refl _ _, HW9⟩
              case round =>
                obtain ⟨t, ht, rfl, hK, hW⟩ := hrel
                by_cases htb : t < N
                · obtain ⟨z, hz⟩ := hW.out.cell htb
                  have hfz : wr.frozen? ⟨g, t, none⟩ = false := hW.out.z
                  have HST : Hid (∀ y, Kp (fun k => k = g) w9 (wr.setCell ⟨g, t, none⟩ (.int .u8 y)) ∧ Wrt (wr.setCell ⟨g, t, none⟩ (.int .u8 y)) g N) := fun y => ⟨hK.out.then (Kp.set _ g t _ rfl), hW.out.set y⟩
                  clear hK hW
                  go_wp2
                  go_roundw
                  case rel => exact ⟨t + 1, by omega, by go_num, (HST.out _).1, (HST.out _).2⟩
                  case measure => simp [intOf]; omega
                · obtain ⟨L', hLz⟩ := HLZ.out
                  have PIx : Hid (PI w wr (fun k => (G k ∨ (wo.heap.size ≤ k ∧ k < wo.heap.size + 1)) ∨ (wo.heap.size + 1 ≤ k ∧ k < w5.heap.size)) mb bx br rs Ls' m p' xa' xc') := by
                    have hgx := hg.out
                    refine HR7.out.pi (fun k hk => ?_) HOLD.out.1 (fun k hk => .inl (.inl (HOLD.out.2 k hk))) ((hM8.out.below HB9.out).step hK.out (fun i hi => ⟨.inl (.inr hi), ?_⟩) (fun i hi => .inl (.inl hi)))
                    · have q := HFL.out k hk
                      have q2 := hM8.out.flt k (.inl hk)
                      rw [hK.out.block k (Nat.lt_of_lt_of_le q2 HB9.out.size) (by omega), HB9.out.block k q2, hF8.out k hk]
                    · have := HFL.out bx (.inr rfl)
                      have := HOLD.out.1
                      omega
                  clear hM8 hF8 HR7 HW9 HB9 hK hW HOLD HFL hg
                  have hB9 := PIx.out.many.bel
                  have HH : Hid (∀ n, Calls Try.prog 15 #[.pointer (some ⟨mb, 0, none⟩)] (wr.drewN n) fun e w' => e = .returned (.int .i64 (tot Ls' : Nat)) ∧ w' = wr.drewN n) := fun n => held_q mb _ _ _ _ (PIx.out.many.drewN n).isM
                  have HP : Hid (∀ n, Calls Try.prog 16 #[.pointer (some ⟨mb, 0, none⟩)] (wr.drewN n) fun e w' => e = .returned (.int .i64 (pst (tot Ls' : Nat) p')) ∧ w' = wr.drewN n) := fun n => peak_q mb _ _ _ _ _ (PIx.out.many.drewN n).isM rfl
                  have HLN : Hid (∀ n, Calls Try.prog 17 #[.pointer (some ⟨r, 0, none⟩)] (wr.drewN n) fun e w' => e = .returned (.int .i64 L'.length) ∧ w' = wr.drewN n) := fun n => many_len j r L' (PIx.out.many.drewN n) hr hLz
                  have t0 : wr.cell? ⟨bx, 0, none⟩ = some (.int .i64 (tot Ls' : Nat)) := ring_cell PIx.out.xb rfl
                  have t1 : wr.cell? ⟨bx, 1, none⟩ = some (.int .i64 (pst (tot Ls' : Nat) p')) := ring_cell PIx.out.xb rfl
                  have t3 : wr.cell? ⟨bx, 3, none⟩ = some (.slice (some ⟨xa', 0, none⟩) 3 xc') := ring_cell PIx.out.xb rfl
                  have tr := PIx.out.ring j r hr
                  obtain ⟨sa9, sc9, tg⟩ : ∃ sa sc, wr.cell? ⟨xa', j, none⟩ = some (.slice sa L'.length sc) := by
                    obtain ⟨hjl, hje⟩ := List.getElem?_eq_some_iff.1 hLz
                    obtain ⟨b', c', k', sa, sc, q1, q2, q3, _⟩ := PIx.out.mat.at j hjl
                    have q4 : b' = xa' := by
                      obtain ⟨z, _, _⟩ := slice_inj q1
                      simpa using z.symm
                    subst q4
                    rw [hje] at q3
                    exact ⟨sa, sc, q3⟩
                  have HPX : Hid (∀ n, ∃ G, PI w (wr.drewN n) G mb bx br rs Ls' m p' xa' xc') := fun n => ⟨_, PIx.out.below ((But.drewN wr.heap.size n wr).below (Nat.le_refl _))⟩
                  have HBZ : Hid (wr.heap.size = wr.heap.size) := rfl
                  clear PIx hLz hB9
                  generalize ((tot Ls' : Nat) : Int) = tt at *
                  generalize pst tt p' = pq at *
                  generalize L'.length = l9 at *
                  go_wp2_with fail
                  go_quiet (first | (go_at_call 15; exact Calls.quiet_of_same (HH.out _)) | (go_at_call 16; exact Calls.quiet_of_same (HP.out _)) | (go_at_call 17; exact Calls.quiet_of_same (HLN.out _)))
                  go_wp2
                  go_roundw
                  case rel =>
                    obtain ⟨G', hG'⟩ := HPX.out nq
                    exact ⟨i + 1, u + (mn + 10), G', Ls', p', xa', xc', by omega, by go_num, by go_num, by omega, hG'⟩
                  case measure => simp [intOf]; omega
          · by_cases hk3 : kd = 3
            · subst hk3
              as_aux_lemma =>
                have hN := clp_le nn L.length
                have hbx0 := heap_lt hP0.out.xb
                have HTK := pi_take hP0.out j L nn hL
                have MTK := fun (W : World) (G' : Nat → Prop) (h : Many G' w W mb rs Ls m p) => many_peek j r L nn h hr hL
                have hTl : (L.take (clp nn L.length)).length = clp nn L.length := by rw [List.length_take]; omega
                have hLb : L.length ≤ 1099511627776 := by have := tot_ge Ls j L hL; have := hP0.out.many.fit; have := hP0.out.many.top; omega
                have hN2 : clp nn L.length ≤ 1099511627776 := by omega
                have HTL : Hid ((L.take (clp nn L.length)).length = clp nn L.length) := hTl
                have HLZ : Hid (Ls[j]? = some L) := hL
                clear hTl hLb hN
                generalize clp nn L.length = N at *
                generalize Ls.set j (L.drop N) = Ls' at *
                generalize gvP (tot Ls : Nat) p (N : Int) = p' at *
                generalize L.take N = TK at *
                have x0 : wo.cell? ⟨bx, 0, none⟩ = some (.int .i64 (tot Ls : Nat)) := ring_cell hPI.out.xb rfl
                have x1 : wo.cell? ⟨bx, 1, none⟩ = some (.int .i64 (pst (tot Ls : Nat) p)) := ring_cell hPI.out.xb rfl
                have x2 : wo.cell? ⟨bx, 2, none⟩ = some (.int .i64 m) := ring_cell hPI.out.xb rfl
                have x3 : wo.cell? ⟨bx, 3, none⟩ = some (.slice (some ⟨ya, 0, none⟩) 3 yc) := ring_cell hPI.out.xb rfl
                have hbxw := heap_lt hPI.out.xb
                have HTKH : Hid (Calls Try.prog 10 #[.agg #[.int .i64 (tot Ls : Nat), .int .i64 (pst (tot Ls : Nat) p), .int .i64 m, .slice (some ⟨ya, 0, none⟩) 3 yc], .int .i64 j, .int .i64 nn] (wo.alloc (.cells #[.int .i64 3, .int .i64 rr, .int .i64 nn, .slice ba b.length bc] 37)) fun e w' => ∃ xa' xc' oa oc ko, e = .returned (.tuple #[.agg #[.int .i64 (tot Ls' : Nat), .int .i64 (pst (tot Ls' : Nat) p'), .int .i64 m, .slice (some ⟨xa', 0, none⟩) 3 xc'], .slice oa N oc]) ∧ (fun k => (G k ∨ (wo.heap.size ≤ k ∧ k < wo.heap.size + 1))) ko ∧ Src w' ko (.slice oa N oc) TK ∧ Mat (fun i => (fun k => (G k ∨ (wo.heap.size ≤ k ∧ k < wo.heap.size + 1))) i ∨ ((wo.alloc (.cells #[.int .i64 3, .int .i64 rr, .int .i64 nn, .slice ba b.length bc] 37)).heap.size ≤ i ∧ i < w'.heap.size)) w' (.slice (some ⟨xa', 0, none⟩) 3 xc') Ls' ∧ Ls'.length = 3 ∧ Below (wo.alloc (.cells #[.int .i64 3, .int .i64 rr, .int .i64 nn, .slice ba b.length bc] 37)).heap.size (wo.alloc (.cells #[.int .i64 3, .int .i64 rr, .int .i64 nn, .slice ba b.length bc] 37)) w') := HTK
                have HMTK : Hid (∀ (W : World) (G' : Nat → Prop) (h : Many G' w W mb rs Ls m p), Calls Try.prog 13 #[.pointer (some ⟨r, 0, none⟩), .int .i64 nn] W fun e w' => ∃ g, e = .returned (.slice (some ⟨g, 0, none⟩) N N) ∧ W.heap.size ≤ g ∧
                      w'.heap[g]? = some (.cells (rowB TK).toArray 5) ∧ Many (fun k => G' k ∨ k = g) w w' mb rs Ls m p ∧ Below W.heap.size W w') := MTK
                have HP0R : Hid (PI w (wo.alloc (.cells #[.int .i64 3, .int .i64 rr, .int .i64 nn, .slice ba b.length bc] 37)) (fun k => (G k ∨ (wo.heap.size ≤ k ∧ k < wo.heap.size + 1))) mb bx br rs Ls m p ya yc) := hP0
                clear HTK MTK hPI hS' hko' U hbel hL hP0
                go_wp2_with fail
                refine HTKH.out.mono ?_
                rintro e w5 ⟨xa', xc', oa, oc, ko5, rfl, hko5, S5, M5, l5, B5⟩
                have A6 : Below w5.heap.size w5 (w5.alloc (.cells #[.int .i64 (tot Ls' : Nat), .int .i64 (pst (tot Ls' : Nat) p'), .int .i64 m, .slice (some ⟨xa', 0, none⟩) 3 xc'] 33)) := (Below.refl _ _).alloc (Nat.le_refl _) _
                have K7 : Below (wo.alloc (.cells #[.int .i64 3, .int .i64 rr, .int .i64 nn, .slice ba b.length bc] 37)).heap.size (wo.alloc (.cells #[.int .i64 3, .int .i64 rr, .int .i64 nn, .slice ba b.length bc] 37)) (w5.alloc (.cells #[.int .i64 (tot Ls' : Nat), .int .i64 (pst (tot Ls' : Nat) p'), .int .i64 m, .slice (some ⟨xa', 0, none⟩) 3 xc'] 33)) := B5.trans (A6.mono B5.size)
                have hs6 : ((w5.alloc (.cells #[.int .i64 (tot Ls' : Nat), .int .i64 (pst (tot Ls' : Nat) p'), .int .i64 m, .slice (some ⟨xa', 0, none⟩) 3 xc'] 33))).heap.size = w5.heap.size + 1 := by simp
                have R7 := HP0R.out.ri.below K7
                have hbrl := HP0R.out.glt br HP0R.out.gr
                have hbr5 : br < w5.heap.size := Nat.lt_of_lt_of_le hbrl B5.size
                have hwo5 : wo.heap.size < w5.heap.size := by have := B5.size; omega
                have t5 : w5.cell? ⟨br, j, none⟩ = some (.pointer (some ⟨r, 0, none⟩)) := by
                  have k := (B5.block br hbrl).trans HP0R.out.rb
                  refine ring_cell k ?_
                  rw [List.getElem?_toArray, List.getElem?_map, hr]; rfl
                have t6 : w5.cell? ⟨wo.heap.size, 2, none⟩ = some (.int .i64 nn) := (B5.cell (p := ⟨wo.heap.size, 2, none⟩) (by show wo.heap.size < _; omega)).trans (ring_cell (new_at wo (.cells #[.int .i64 3, .int .i64 rr, .int .i64 nn, .slice ba b.length bc] 37)) rfl)
                have s45 := B5.size
                have M7 : Many (fun k => (G k ∨ (wo.heap.size ≤ k ∧ k < wo.heap.size + 1)) ∨ k = bx) w (w5.alloc (.cells #[.int .i64 (tot Ls' : Nat), .int .i64 (pst (tot Ls' : Nat) p'), .int .i64 m, .slice (some ⟨xa', 0, none⟩) 3 xc'] 33)) mb rs Ls m p := HP0R.out.many.below K7
                have HR7 : Hid (RI (w5.alloc (.cells #[.int .i64 (tot Ls' : Nat), .int .i64 (pst (tot Ls' : Nat) p'), .int .i64 m, .slice (some ⟨xa', 0, none⟩) 3 xc'] 33)) (fun k => (G k ∨ (wo.heap.size ≤ k ∧ k < wo.heap.size + 1))) bx br rs Ls m (pst (tot Ls : Nat) p) ya yc) := R7
                have hklt := HP0R.out.glt ko5 hko5
                have S7 : Src (w5.alloc (.cells #[.int .i64 (tot Ls' : Nat), .int .i64 (pst (tot Ls' : Nat) p'), .int .i64 m, .slice (some ⟨xa', 0, none⟩) 3 xc'] 33)) ko5 (.slice oa N oc) TK := S5.frame (A6.block ko5 (by omega))
                have T7 : ∀ W, Below ((w5.alloc (.cells #[.int .i64 (tot Ls' : Nat), .int .i64 (pst (tot Ls' : Nat) p'), .int .i64 m, .slice (some ⟨xa', 0, none⟩) 3 xc'] 33))).heap.size (w5.alloc (.cells #[.int .i64 (tot Ls' : Nat), .int .i64 (pst (tot Ls' : Nat) p'), .int .i64 m, .slice (some ⟨xa', 0, none⟩) 3 xc'] 33)) W → Calls Try.prog 13 #[.pointer (some ⟨r, 0, none⟩), .int .i64 nn] W fun e w' => ∃ g, e = .returned (.slice (some ⟨g, 0, none⟩) N N) ∧ ((w5.alloc (.cells #[.int .i64 (tot Ls' : Nat), .int .i64 (pst (tot Ls' : Nat) p'), .int .i64 m, .slice (some ⟨xa', 0, none⟩) 3 xc'] 33))).heap.size ≤ g ∧ Src w' g (.slice (some ⟨g, 0, none⟩) N N) TK ∧ Wrt w' g N ∧ Src w' ko5 (.slice oa N oc) TK ∧ Many (fun k => ((G k ∨ (wo.heap.size ≤ k ∧ k < wo.heap.size + 1)) ∨ k = bx) ∨ k = g) w w' mb rs Ls m p ∧ (∀ k, ((G k ∨ (wo.heap.size ≤ k ∧ k < wo.heap.size + 1)) ∨ k = bx) → w'.heap[k]? = ((w5.alloc (.cells #[.int .i64 (tot Ls' : Nat), .int .i64 (pst (tot Ls' : Nat) p'), .int .i64 m, .slice (some ⟨xa', 0, none⟩) 3 xc'] 33))).heap[k]?) ∧ w'.cell? ⟨br, j, none⟩ = some (.pointer (some ⟨r, 0, none⟩)) ∧ w'.cell? ⟨wo.heap.size, 2, none⟩ = some (.int .i64 nn) := by
                  intro W hW
                  refine (HMTK.out W _ (M7.below hW)).mono ?_
                  rintro e w' ⟨g, rfl, q1, q2, q3, q4⟩
                  have q5 := hW.trans (q4.mono hW.size)
                  have q6 : ∀ k, ((G k ∨ (wo.heap.size ≤ k ∧ k < wo.heap.size + 1)) ∨ k = bx) → w'.heap[k]? = ((w5.alloc (.cells #[.int .i64 (tot Ls' : Nat), .int .i64 (pst (tot Ls' : Nat) p'), .int .i64 m, .slice (some ⟨xa', 0, none⟩) 3 xc'] 33))).heap[k]? := fun k hk => q5.block k (M7.flt k hk)
                  have q7 : Wrt w' g N := by
                    have := Wrt.row q2
                    rwa [HTL.out] at this
                  refine ⟨g, rfl, Nat.le_trans hW.size q1, src_row q2 HTL.out (by unfold maxLen; omega), q7, S7.frame (q6 ko5 (.inl hko5)), q3, q6, ?_, ?_⟩
                  · refine ring_cell ((q6 br (.inl HP0R.out.gr)).trans HR7.out.rb) ?_
                    rw [List.getElem?_toArray, List.getElem?_map, hr]; rfl
                  · have q8 := (q6 wo.heap.size (.inl (.inr ⟨Nat.le_refl _, by omega⟩))).trans (K7.block wo.heap.size (by omega))
                    exact ring_cell (q8.trans (new_at wo (.cells #[.int .i64 3, .int .i64 rr, .int .i64 nn, .slice ba b.length bc] 37))) rfl
                have HT7 : Hid (∀ W, Below ((w5.alloc (.cells #[.int .i64 (tot Ls' : Nat), .int .i64 (pst (tot Ls' : Nat) p'), .int .i64 m, .slice (some ⟨xa', 0, none⟩) 3 xc'] 33))).heap.size (w5.alloc (.cells #[.int .i64 (tot Ls' : Nat), .int .i64 (pst (tot Ls' : Nat) p'), .int .i64 m, .slice (some ⟨xa', 0, none⟩) 3 xc'] 33)) W → Calls Try.prog 13 #[.pointer (some ⟨r, 0, none⟩), .int .i64 nn] W fun e w' => ∃ g, e = .returned (.slice (some ⟨g, 0, none⟩) N N) ∧ Hid (((w5.alloc (.cells #[.int .i64 (tot Ls' : Nat), .int .i64 (pst (tot Ls' : Nat) p'), .int .i64 m, .slice (some ⟨xa', 0, none⟩) 3 xc'] 33))).heap.size ≤ g) ∧ Hid (Src w' g (.slice (some ⟨g, 0, none⟩) N N) TK) ∧ Hid (Wrt w' g N) ∧ Hid (Src w' ko5 (.slice oa N oc) TK) ∧ Hid (Many (fun k => ((G k ∨ (wo.heap.size ≤ k ∧ k < wo.heap.size + 1)) ∨ k = bx) ∨ k = g) w w' mb rs Ls m p) ∧ Hid (∀ k, ((G k ∨ (wo.heap.size ≤ k ∧ k < wo.heap.size + 1)) ∨ k = bx) → w'.heap[k]? = ((w5.alloc (.cells #[.int .i64 (tot Ls' : Nat), .int .i64 (pst (tot Ls' : Nat) p'), .int .i64 m, .slice (some ⟨xa', 0, none⟩) 3 xc'] 33))).heap[k]?) ∧ w'.cell? ⟨br, j, none⟩ = some (.pointer (some ⟨r, 0, none⟩)) ∧ w'.cell? ⟨wo.heap.size, 2, none⟩ = some (.int .i64 nn)) := T7
                have I0 := Below.refl ((w5.alloc (.cells #[.int .i64 (tot Ls' : Nat), .int .i64 (pst (tot Ls' : Nat) p'), .int .i64 m, .slice (some ⟨xa', 0, none⟩) 3 xc'] 33))).heap.size (w5.alloc (.cells #[.int .i64 (tot Ls' : Nat), .int .i64 (pst (tot Ls' : Nat) p'), .int .i64 m, .slice (some ⟨xa', 0, none⟩) 3 xc'] 33))
                have HFL : Hid (∀ k, ((G k ∨ (wo.heap.size ≤ k ∧ k < wo.heap.size + 1)) ∨ k = bx) → k < ((w5.alloc (.cells #[.int .i64 (tot Ls' : Nat), .int .i64 (pst (tot Ls' : Nat) p'), .int .i64 m, .slice (some ⟨xa', 0, none⟩) 3 xc'] 33))).heap.size) := M7.flt
                have HOLD : Hid (w.heap.size ≤ bx ∧ (∀ k, k < w.heap.size → G k)) := ⟨HP0R.out.hx, HG1.out⟩
                have i0 : ((w5.alloc (.cells #[.int .i64 (tot Ls' : Nat), .int .i64 (pst (tot Ls' : Nat) p'), .int .i64 m, .slice (some ⟨xa', 0, none⟩) 3 xc'] 33))).cell? ⟨br, j, none⟩ = some (.pointer (some ⟨r, 0, none⟩)) := by
                  refine ring_cell HR7.out.rb ?_
                  rw [List.getElem?_toArray, List.getElem?_map, hr]; rfl
                have i1 : ((w5.alloc (.cells #[.int .i64 (tot Ls' : Nat), .int .i64 (pst (tot Ls' : Nat) p'), .int .i64 m, .slice (some ⟨xa', 0, none⟩) 3 xc'] 33))).cell? ⟨wo.heap.size, 2, none⟩ = some (.int .i64 nn) := ring_cell ((K7.block wo.heap.size (by omega)).trans (new_at wo (.cells #[.int .i64 3, .int .i64 rr, .int .i64 nn, .slice ba b.length bc] 37))) rfl
                clear T7 S7 M7 R7 K7 A6 S5 M5 B5 HTKH HP0R x0 x1 x2 x3
                go_wp2_with fail
                go_region_held3 (fun W => W.cell? ⟨br, j, none⟩ = some (.pointer (some ⟨r, 0, none⟩)) ∧ W.cell? ⟨wo.heap.size, 2, none⟩ = some (.int .i64 nn)) (go_keep) (first | (go_at_call 13; refine (HT7.out _ (by first | assumption | exact Below.drew I0 | exact Below.drew (by assumption))).mono ?_; rintro e w8 ⟨g, rfl, hg, hS8, hW8, hK8, hM8, hF8, hs0, hs9⟩))
                have HSB : Hid (Calls Try.prog 12 #[.slice (some ⟨g, 0, none⟩) N N, .slice oa N oc] w8 fun e w' => e = .returned (.bool true) ∧ Below w8.heap.size w8 w') := sameBytes_eq TK _ _ _ _ w8 hS8.out hK8.out
                clear hS8 hK8 hs0 hs9 i0 i1 I0 HT7 t5 t6
                go_wp2_with fail
                refine HSB.out.mono ?_
                rintro e w9 ⟨rfl, B9⟩
                have HB9 : Hid (Below w8.heap.size w8 w9) := B9
                have hgl8 : g < w8.heap.size := hM8.out.flt g (.inr rfl)
                have HW9 : Hid (Wrt w9 g N) := hW8.out.frame (B9.block g hgl8)
                clear HSB B9 hW8
                go_wp2_with fail
                go_loopw [156] (fun vi wx => ∃ t : Nat, t ≤ N ∧ vi = .int .i64 t ∧ Hid (Kp (fun k => k = g) w9 wx) ∧ Hid (Wrt wx g N)) (fun vi _ => N - (intOf vi).toNat)
                case atStart => exact ⟨0, Nat.zero_le _, rfl, Kp.refl _ _, HW9⟩
                case round =>
                  obtain ⟨t, ht, rfl, hK, hW⟩ := hrel
                  by_cases htb : t < N
                  · obtain ⟨z, hz⟩ := hW.out.cell htb
                    have hfz : wr.frozen? ⟨g, t, none⟩ = false := hW.out.z
                    have HST : Hid (∀ y, Kp (fun k => k = g) w9 (wr.setCell ⟨g, t, none⟩ (.int .u8 y)) ∧ Wrt (wr.setCell ⟨g, t, none⟩ (.int .u8 y)) g N) := fun y => ⟨hK.out.then (Kp.set _ g t _ rfl), hW.out.set y⟩
                    clear hK hW
                    go_wp2
                    go_roundw
                    case rel => exact ⟨t + 1, by omega, by go_num, (HST.out _).1, (HST.out _).2⟩
                    case measure => simp [intOf]; omega
                  · have hLz := HLZ.out
                    have PIx : Hid (PI w wr (fun k => (G k ∨ (wo.heap.size ≤ k ∧ k < wo.heap.size + 1))) mb bx br rs Ls m p ya yc) := by
                      have hgx := hg.out
                      refine HR7.out.pi (fun k hk => ?_) HOLD.out.1 (fun k hk => .inl (HOLD.out.2 k hk)) ((hM8.out.below HB9.out).step hK.out (fun i hi => ⟨.inl (.inr hi), ?_⟩) (fun i hi => .inl (.inl hi)))
                      · have q := HFL.out k hk
                        have q2 := hM8.out.flt k (.inl hk)
                        rw [hK.out.block k (Nat.lt_of_lt_of_le q2 HB9.out.size) (by omega), HB9.out.block k q2, hF8.out k hk]
                      · have := HFL.out bx (.inr rfl)
                        have := HOLD.out.1
                        omega
                    clear hM8 hF8 HR7 HW9 HB9 hK hW HOLD HFL hg
                    have hB9 := PIx.out.many.bel
                    have HH : Hid (∀ n, Calls Try.prog 15 #[.pointer (some ⟨mb, 0, none⟩)] (wr.drewN n) fun e w' => e = .returned (.int .i64 (tot Ls : Nat)) ∧ w' = wr.drewN n) := fun n => held_q mb _ _ _ _ (PIx.out.many.drewN n).isM
                    have HP : Hid (∀ n, Calls Try.prog 16 #[.pointer (some ⟨mb, 0, none⟩)] (wr.drewN n) fun e w' => e = .returned (.int .i64 (pst (tot Ls : Nat) p)) ∧ w' = wr.drewN n) := fun n => peak_q mb _ _ _ _ _ (PIx.out.many.drewN n).isM rfl
                    have HLN : Hid (∀ n, Calls Try.prog 17 #[.pointer (some ⟨r, 0, none⟩)] (wr.drewN n) fun e w' => e = .returned (.int .i64 L.length) ∧ w' = wr.drewN n) := fun n => many_len j r L (PIx.out.many.drewN n) hr hLz
                    have t0 : wr.cell? ⟨bx, 0, none⟩ = some (.int .i64 (tot Ls : Nat)) := ring_cell PIx.out.xb rfl
                    have t1 : wr.cell? ⟨bx, 1, none⟩ = some (.int .i64 (pst (tot Ls : Nat) p)) := ring_cell PIx.out.xb rfl
                    have t3 : wr.cell? ⟨bx, 3, none⟩ = some (.slice (some ⟨ya, 0, none⟩) 3 yc) := ring_cell PIx.out.xb rfl
                    have tr := PIx.out.ring j r hr
                    obtain ⟨sa9, sc9, tg⟩ : ∃ sa sc, wr.cell? ⟨ya, j, none⟩ = some (.slice sa L.length sc) := by
                      obtain ⟨hjl, hje⟩ := List.getElem?_eq_some_iff.1 hLz
                      obtain ⟨b', c', k', sa, sc, q1, q2, q3, _⟩ := PIx.out.mat.at j hjl
                      have q4 : b' = ya := by
                        obtain ⟨z, _, _⟩ := slice_inj q1
                        simpa using z.symm
                      subst q4
                      rw [hje] at q3
                      exact ⟨sa, sc, q3⟩
                    have HPX : Hid (∀ n, ∃ G, PI w (wr.drewN n) G mb bx br rs Ls m p ya yc) := fun n => ⟨_, PIx.out.below ((But.drewN wr.heap.size n wr).below (Nat.le_refl _))⟩
                    have HBZ : Hid (wr.heap.size = wr.heap.size) := rfl
                    clear PIx hLz hB9
                    generalize ((tot Ls : Nat) : Int) = tt at *
                    generalize pst tt p = pq at *
                    generalize L.length = l9 at *
                    go_wp2_with fail
                    go_quiet (first | (go_at_call 15; exact Calls.quiet_of_same (HH.out _)) | (go_at_call 16; exact Calls.quiet_of_same (HP.out _)) | (go_at_call 17; exact Calls.quiet_of_same (HLN.out _)))
                    go_wp2
                    go_roundw
                    case rel =>
                      obtain ⟨G', hG'⟩ := HPX.out nq
                      exact ⟨i + 1, u + (mn + 10), G', Ls, p, ya, yc, by omega, by go_num, by go_num, by omega, hG'⟩
                    case measure => simp [intOf]; omega
            · by_cases hk4 : kd = 4
              · subst hk4
                as_aux_lemma =>
                  have hbx0 := heap_lt hP0.out.xb
                  have HTK : ∀ W, Below (wo.alloc (.cells #[.int .i64 4, .int .i64 rr, .int .i64 nn, .slice ba b.length bc] 37)).heap.size (wo.alloc (.cells #[.int .i64 4, .int .i64 rr, .int .i64 nn, .slice ba b.length bc] 37)) W → _ := fun W hW => pi_take ((hP0.out.ri.below hW).pi (fun _ _ => rfl) hP0.out.hx hP0.out.old (hP0.out.many.below hW)) j L (L.length : Int) hL
                  have hcs : clp (L.length : Int) L.length = L.length := by unfold clp; rw [if_neg (by omega), if_neg (by omega)]; omega
                  rw [hcs, List.drop_length] at HTK
                  have MTK := fun (W : World) (G' : Nat → Prop) (h : Many G' w W mb rs Ls m p) => many_drop j r L h hr hL
                  have hLs : (Ls.set j [])[j]? = some [] := List.getElem?_set_self (List.getElem?_eq_some_iff.1 hL).1
                  have hLb : L.length ≤ 1099511627776 := by have := tot_ge Ls j L hL; have := hP0.out.many.fit; have := hP0.out.many.top; omega
                  have HLZ : Hid (∃ L', (Ls.set j [])[j]? = some L') := ⟨_, hLs⟩
                  clear hcs hLs
                  obtain ⟨sa, sc, hya, tg⟩ : ∃ sa sc, (G ya ∨ (wo.heap.size ≤ ya ∧ ya < wo.heap.size + 1)) ∧ (wo.alloc (.cells #[.int .i64 4, .int .i64 rr, .int .i64 nn, .slice ba b.length bc] 37)).cell? ⟨ya, j, none⟩ = some (.slice sa L.length sc) := by
                    obtain ⟨hjl, hje⟩ := List.getElem?_eq_some_iff.1 hL
                    obtain ⟨b', c', k', sa, sc, q1, q2, q3, _⟩ := hP0.out.mat.at j hjl
                    have q4 : b' = ya := by
                      obtain ⟨z, _, _⟩ := slice_inj q1
                      simpa using z.symm
                    subst q4
                    rw [hje] at q3
                    exact ⟨sa, sc, q2, q3⟩
                  have hyl := hP0.out.glt ya hya
                  have TPOST : ∀ (W0 W : World), Below (wo.alloc (.cells #[.int .i64 4, .int .i64 rr, .int .i64 nn, .slice ba b.length bc] 37)).heap.size (wo.alloc (.cells #[.int .i64 4, .int .i64 rr, .int .i64 nn, .slice ba b.length bc] 37)) W0 → Below W0.heap.size W0 W → Calls Try.prog 10 #[.agg #[.int .i64 (tot Ls : Nat), .int .i64 (pst (tot Ls : Nat) p), .int .i64 m, .slice (some ⟨ya, 0, none⟩) 3 yc], .int .i64 j, .int .i64 (L.length : Int)] W fun e w' => ∃ xa' xc' oa oc, e = .returned (.tuple #[.agg #[.int .i64 (tot (Ls.set j []) : Nat), .int .i64 (pst (tot (Ls.set j []) : Nat) (gvP (tot Ls : Nat) p L.length)), .int .i64 m, .slice (some ⟨xa', 0, none⟩) 3 xc'], .slice oa L.length oc]) ∧ Mat (fun k => (G k ∨ (wo.heap.size ≤ k ∧ k < wo.heap.size + 1)) ∨ (W0.heap.size ≤ k ∧ k < w'.heap.size)) w' (.slice (some ⟨xa', 0, none⟩) 3 xc') (Ls.set j []) ∧ (Ls.set j []).length = 3 ∧ Below W0.heap.size W0 w' ∧
                      w'.cell? ⟨bx, 0, none⟩ = some (.int .i64 (tot Ls : Nat)) ∧ w'.cell? ⟨bx, 1, none⟩ = some (.int .i64 (pst (tot Ls : Nat) p)) ∧ w'.cell? ⟨bx, 2, none⟩ = some (.int .i64 m) ∧ w'.cell? ⟨bx, 3, none⟩ = some (.slice (some ⟨ya, 0, none⟩) 3 yc) ∧ w'.cell? ⟨ya, j, none⟩ = some (.slice sa L.length sc) := by
                    intro W0 W hW0 hW
                    have hW1 := hW0.trans (hW.mono hW0.size)
                    refine (HTK W hW1).mono ?_
                    rintro e w' ⟨xa', xc', oa, oc, ko, rfl, q1, q2, q3, q4, q5⟩
                    have B := hW1.trans (q5.mono hW1.size)
                    have hb := (B.block bx hbx0).trans hP0.out.xb
                    refine ⟨xa', xc', oa, oc, rfl, q3.more hW.size (Nat.le_refl _), q4, hW.trans (q5.mono hW.size), ring_cell hb rfl, ring_cell hb rfl, ring_cell hb rfl, ring_cell hb rfl, (B.cell (p := ⟨ya, j, none⟩) hyl).trans tg⟩
                  have IB := Below.refl (wo.alloc (.cells #[.int .i64 4, .int .i64 rr, .int .i64 nn, .slice ba b.length bc] 37)).heap.size (wo.alloc (.cells #[.int .i64 4, .int .i64 rr, .int .i64 nn, .slice ba b.length bc] 37))
                  have hs2 : ((wo.alloc (.cells #[.int .i64 4, .int .i64 rr, .int .i64 nn, .slice ba b.length bc] 37)).alloc (.cells #[.int .i64 0, .int .i64 0, .int .i64 0, .slice none 0 0] 33)).heap.size = wo.heap.size + 2 := by simp
                  have JA : Below (wo.alloc (.cells #[.int .i64 4, .int .i64 rr, .int .i64 nn, .slice ba b.length bc] 37)).heap.size (wo.alloc (.cells #[.int .i64 4, .int .i64 rr, .int .i64 nn, .slice ba b.length bc] 37)) ((wo.alloc (.cells #[.int .i64 4, .int .i64 rr, .int .i64 nn, .slice ba b.length bc] 37)).alloc (.cells #[.int .i64 0, .int .i64 0, .int .i64 0, .slice none 0 0] 33)) := (Below.refl _ _).alloc (Nat.le_refl _) _
                  have IA := Below.refl ((wo.alloc (.cells #[.int .i64 4, .int .i64 rr, .int .i64 nn, .slice ba b.length bc] 37)).alloc (.cells #[.int .i64 0, .int .i64 0, .int .i64 0, .slice none 0 0] 33)).heap.size ((wo.alloc (.cells #[.int .i64 4, .int .i64 rr, .int .i64 nn, .slice ba b.length bc] 37)).alloc (.cells #[.int .i64 0, .int .i64 0, .int .i64 0, .slice none 0 0] 33))
                  have NA : ((wo.alloc (.cells #[.int .i64 4, .int .i64 rr, .int .i64 nn, .slice ba b.length bc] 37)).alloc (.cells #[.int .i64 0, .int .i64 0, .int .i64 0, .slice none 0 0] 33)).heap[wo.heap.size + 1]? = some (.cells #[.int .i64 0, .int .i64 0, .int .i64 0, .slice none 0 0] 33) := by
                    have k := new_at (wo.alloc (.cells #[.int .i64 4, .int .i64 rr, .int .i64 nn, .slice ba b.length bc] 37)) (.cells #[.int .i64 0, .int .i64 0, .int .i64 0, .slice none 0 0] 33)
                    rw [hs1] at k
                    exact k
                  have TA : Hid (∀ W, Below ((wo.alloc (.cells #[.int .i64 4, .int .i64 rr, .int .i64 nn, .slice ba b.length bc] 37)).alloc (.cells #[.int .i64 0, .int .i64 0, .int .i64 0, .slice none 0 0] 33)).heap.size ((wo.alloc (.cells #[.int .i64 4, .int .i64 rr, .int .i64 nn, .slice ba b.length bc] 37)).alloc (.cells #[.int .i64 0, .int .i64 0, .int .i64 0, .slice none 0 0] 33)) W → Calls Try.prog 10 #[.agg #[.int .i64 (tot Ls : Nat), .int .i64 (pst (tot Ls : Nat) p), .int .i64 m, .slice (some ⟨ya, 0, none⟩) 3 yc], .int .i64 j, .int .i64 (L.length : Int)] W fun e w' => ∃ xa' xc' oa oc, e = .returned (.tuple #[.agg #[.int .i64 (tot (Ls.set j []) : Nat), .int .i64 (pst (tot (Ls.set j []) : Nat) (gvP (tot Ls : Nat) p L.length)), .int .i64 m, .slice (some ⟨xa', 0, none⟩) 3 xc'], .slice oa L.length oc]) ∧ Hid (Mat (fun k => (G k ∨ (wo.heap.size ≤ k ∧ k < wo.heap.size + 1)) ∨ (((wo.alloc (.cells #[.int .i64 4, .int .i64 rr, .int .i64 nn, .slice ba b.length bc] 37)).alloc (.cells #[.int .i64 0, .int .i64 0, .int .i64 0, .slice none 0 0] 33)).heap.size ≤ k ∧ k < w'.heap.size)) w' (.slice (some ⟨xa', 0, none⟩) 3 xc') (Ls.set j [])) ∧ Hid (Below ((wo.alloc (.cells #[.int .i64 4, .int .i64 rr, .int .i64 nn, .slice ba b.length bc] 37)).alloc (.cells #[.int .i64 0, .int .i64 0, .int .i64 0, .slice none 0 0] 33)).heap.size ((wo.alloc (.cells #[.int .i64 4, .int .i64 rr, .int .i64 nn, .slice ba b.length bc] 37)).alloc (.cells #[.int .i64 0, .int .i64 0, .int .i64 0, .slice none 0 0] 33)) w') ∧
                      w'.cell? ⟨bx, 0, none⟩ = some (.int .i64 (tot Ls : Nat)) ∧ w'.cell? ⟨bx, 1, none⟩ = some (.int .i64 (pst (tot Ls : Nat) p)) ∧ w'.cell? ⟨bx, 2, none⟩ = some (.int .i64 m) ∧ w'.cell? ⟨bx, 3, none⟩ = some (.slice (some ⟨ya, 0, none⟩) 3 yc) ∧ w'.cell? ⟨ya, j, none⟩ = some (.slice sa L.length sc) ∧
                      w'.cell? ⟨wo.heap.size + 1, 0, none⟩ = some (.int .i64 0) ∧ w'.cell? ⟨wo.heap.size + 1, 1, none⟩ = some (.int .i64 0) ∧ w'.cell? ⟨wo.heap.size + 1, 2, none⟩ = some (.int .i64 0) ∧ w'.cell? ⟨wo.heap.size + 1, 3, none⟩ = some (.slice none 0 0) ∧ w'.frozen? ⟨wo.heap.size + 1, 0, none⟩ = false ∧ w'.frozen? ⟨wo.heap.size + 1, 1, none⟩ = false ∧ w'.frozen? ⟨wo.heap.size + 1, 2, none⟩ = false ∧ w'.frozen? ⟨wo.heap.size + 1, 3, none⟩ = false) := by
                    intro W hW
                    refine (TPOST _ W JA hW).mono ?_
                    rintro e w' ⟨xa', xc', oa, oc, rfl, q1, q2, q3, q4⟩
                    have k := (q3.block (wo.heap.size + 1) (by omega)).trans NA
                    exact ⟨xa', xc', oa, oc, rfl, q1, q3, q4.1, q4.2.1, q4.2.2.1, q4.2.2.2.1, q4.2.2.2.2, ring_cell k rfl, ring_cell k rfl, ring_cell k rfl, ring_cell k rfl, ring_z k, ring_z k, ring_z k, ring_z k⟩
                  have TB : Hid (∀ W, Below (wo.alloc (.cells #[.int .i64 4, .int .i64 rr, .int .i64 nn, .slice ba b.length bc] 37)).heap.size (wo.alloc (.cells #[.int .i64 4, .int .i64 rr, .int .i64 nn, .slice ba b.length bc] 37)) W → Calls Try.prog 10 #[.agg #[.int .i64 (tot Ls : Nat), .int .i64 (pst (tot Ls : Nat) p), .int .i64 m, .slice (some ⟨ya, 0, none⟩) 3 yc], .int .i64 j, .int .i64 (L.length : Int)] W fun e w' => ∃ xa' xc' oa oc, e = .returned (.tuple #[.agg #[.int .i64 (tot (Ls.set j []) : Nat), .int .i64 (pst (tot (Ls.set j []) : Nat) (gvP (tot Ls : Nat) p L.length)), .int .i64 m, .slice (some ⟨xa', 0, none⟩) 3 xc'], .slice oa L.length oc]) ∧ Hid (Mat (fun k => (G k ∨ (wo.heap.size ≤ k ∧ k < wo.heap.size + 1)) ∨ ((wo.alloc (.cells #[.int .i64 4, .int .i64 rr, .int .i64 nn, .slice ba b.length bc] 37)).heap.size ≤ k ∧ k < w'.heap.size)) w' (.slice (some ⟨xa', 0, none⟩) 3 xc') (Ls.set j [])) ∧ Hid (Below (wo.alloc (.cells #[.int .i64 4, .int .i64 rr, .int .i64 nn, .slice ba b.length bc] 37)).heap.size (wo.alloc (.cells #[.int .i64 4, .int .i64 rr, .int .i64 nn, .slice ba b.length bc] 37)) w') ∧
                      w'.cell? ⟨bx, 0, none⟩ = some (.int .i64 (tot Ls : Nat)) ∧ w'.cell? ⟨bx, 1, none⟩ = some (.int .i64 (pst (tot Ls : Nat) p)) ∧ w'.cell? ⟨bx, 2, none⟩ = some (.int .i64 m) ∧ w'.cell? ⟨bx, 3, none⟩ = some (.slice (some ⟨ya, 0, none⟩) 3 yc) ∧ w'.cell? ⟨ya, j, none⟩ = some (.slice sa L.length sc)) := by
                    intro W hW
                    refine (TPOST _ W IB hW).mono ?_
                    rintro e w' ⟨xa', xc', oa, oc, rfl, q1, q2, q3, q4⟩
                    exact ⟨xa', xc', oa, oc, rfl, q1, q3, q4⟩
                  have l5 : (Ls.set j []).length = 3 := by rw [List.length_set]; exact hP0.out.len
                  have i0 : (wo.alloc (.cells #[.int .i64 4, .int .i64 rr, .int .i64 nn, .slice ba b.length bc] 37)).cell? ⟨bx, 0, none⟩ = some (.int .i64 (tot Ls : Nat)) := ring_cell hP0.out.xb rfl
                  have i1 : (wo.alloc (.cells #[.int .i64 4, .int .i64 rr, .int .i64 nn, .slice ba b.length bc] 37)).cell? ⟨bx, 1, none⟩ = some (.int .i64 (pst (tot Ls : Nat) p)) := ring_cell hP0.out.xb rfl
                  have i2 : (wo.alloc (.cells #[.int .i64 4, .int .i64 rr, .int .i64 nn, .slice ba b.length bc] 37)).cell? ⟨bx, 2, none⟩ = some (.int .i64 m) := ring_cell hP0.out.xb rfl
                  have i3 : (wo.alloc (.cells #[.int .i64 4, .int .i64 rr, .int .i64 nn, .slice ba b.length bc] 37)).cell? ⟨bx, 3, none⟩ = some (.slice (some ⟨ya, 0, none⟩) 3 yc) := ring_cell hP0.out.xb rfl
                  have HP0R : Hid (PI w (wo.alloc (.cells #[.int .i64 4, .int .i64 rr, .int .i64 nn, .slice ba b.length bc] 37)) (fun k => (G k ∨ (wo.heap.size ≤ k ∧ k < wo.heap.size + 1))) mb bx br rs Ls m p ya yc) := hP0
                  have HMTK : Hid (∀ (W : World) (G' : Nat → Prop) (h : Many G' w W mb rs Ls m p), Calls Try.prog 14 #[.pointer (some ⟨r, 0, none⟩)] W fun e w' => e = .returned (.int .i64 L.length) ∧ Many G' w w' mb rs (Ls.set j []) m (gvP (tot Ls : Nat) p L.length) ∧ (∀ k, G' k → w'.heap[k]? = W.heap[k]?) ∧ W.heap.size ≤ w'.heap.size) := MTK
                  have HL5 : Hid ((Ls.set j []).length = 3) := l5
                  have n1 : ¬ bx = wo.heap.size + 1 := by omega
                  have n2 : ¬ wo.heap.size + 1 = bx := by omega
                  have n3 : ¬ ya = wo.heap.size + 1 := by omega
                  have n4 : ¬ wo.heap.size + 1 = ya := by omega
                  clear HTK MTK TPOST hPI hS' hko' U hbel hL hP0 hya l5 NA
                  generalize Ls.set j [] = Ls' at *
                  generalize gvP (tot Ls : Nat) p (L.length : Int) = p' at *
                  go_upto_region 48 with fail
                  go_cut [24, 25] (fun v24 v25 wx => ∃ b24 xa' xc' oa oc, v24 = .pointer (some ⟨b24, 0, none⟩) ∧ v25 = .slice oa L.length oc ∧ Hid (wx.heap[b24]? = some (.cells #[.int .i64 (tot Ls' : Nat), .int .i64 (pst (tot Ls' : Nat) p'), .int .i64 m, .slice (some ⟨xa', 0, none⟩) 3 xc'] 33)) ∧ Hid ((wo.alloc (.cells #[.int .i64 4, .int .i64 rr, .int .i64 nn, .slice ba b.length bc] 37)).heap.size ≤ b24) ∧ Hid (Mat (fun k => (G k ∨ (wo.heap.size ≤ k ∧ k < wo.heap.size + 1)) ∨ ((wo.alloc (.cells #[.int .i64 4, .int .i64 rr, .int .i64 nn, .slice ba b.length bc] 37)).heap.size ≤ k ∧ k < wx.heap.size)) wx (.slice (some ⟨xa', 0, none⟩) 3 xc') Ls') ∧ Hid (Below (wo.alloc (.cells #[.int .i64 4, .int .i64 rr, .int .i64 nn, .slice ba b.length bc] 37)).heap.size (wo.alloc (.cells #[.int .i64 4, .int .i64 rr, .int .i64 nn, .slice ba b.length bc] 37)) wx))
                  case first =>
                    go_region_held3 (fun W => W.cell? ⟨bx, 0, none⟩ = some (.int .i64 (tot Ls : Nat)) ∧ W.cell? ⟨bx, 1, none⟩ = some (.int .i64 (pst (tot Ls : Nat) p)) ∧ W.cell? ⟨bx, 2, none⟩ = some (.int .i64 m) ∧ W.cell? ⟨bx, 3, none⟩ = some (.slice (some ⟨ya, 0, none⟩) 3 yc) ∧ W.cell? ⟨ya, j, none⟩ = some (.slice sa L.length sc)) (go_keep) (first | (go_at_call 10; refine (TA.out _ IA).mono ?_; rintro e w5 ⟨xa', xc', oa, oc, rfl, M5, B5, e0, e1, e2, e3, e4, d0, d1, d2, d3, z0, z1, z2, z3⟩) | (go_at_call 10; refine (TA.out _ (Below.drew IA)).mono ?_; rintro e w5 ⟨xa', xc', oa, oc, rfl, M5, B5, e0, e1, e2, e3, e4, d0, d1, d2, d3, z0, z1, z2, z3⟩) | (go_at_call 10; refine (TB.out _ IB).mono ?_; rintro e w5 ⟨xa', xc', oa, oc, rfl, M5, B5, e0, e1, e2, e3, e4⟩) | (go_at_call 10; refine (TB.out _ (Below.drew IB)).mono ?_; rintro e w5 ⟨xa', xc', oa, oc, rfl, M5, B5, e0, e1, e2, e3, e4⟩))
                    · have A6 : Below w5.heap.size w5 (w5.alloc (.cells #[.int .i64 (tot Ls' : Nat), .int .i64 (pst (tot Ls' : Nat) p'), .int .i64 m, .slice (some ⟨xa', 0, none⟩) 3 xc'] 33)) := (Below.refl _ _).alloc (Nat.le_refl _) _
                      have hs6 : (w5.alloc (.cells #[.int .i64 (tot Ls' : Nat), .int .i64 (pst (tot Ls' : Nat) p'), .int .i64 m, .slice (some ⟨xa', 0, none⟩) 3 xc'] 33)).heap.size = w5.heap.size + 1 := by simp
                      have HX : Hid ((w5.alloc (.cells #[.int .i64 (tot Ls' : Nat), .int .i64 (pst (tot Ls' : Nat) p'), .int .i64 m, .slice (some ⟨xa', 0, none⟩) 3 xc'] 33)).heap[w5.heap.size]? = some (.cells #[.int .i64 (tot Ls' : Nat), .int .i64 (pst (tot Ls' : Nat) p'), .int .i64 m, .slice (some ⟨xa', 0, none⟩) 3 xc'] 33) ∧ (wo.alloc (.cells #[.int .i64 4, .int .i64 rr, .int .i64 nn, .slice ba b.length bc] 37)).heap.size ≤ w5.heap.size ∧ Mat (fun k => (G k ∨ (wo.heap.size ≤ k ∧ k < wo.heap.size + 1)) ∨ ((wo.alloc (.cells #[.int .i64 4, .int .i64 rr, .int .i64 nn, .slice ba b.length bc] 37)).heap.size ≤ k ∧ k < (w5.alloc (.cells #[.int .i64 (tot Ls' : Nat), .int .i64 (pst (tot Ls' : Nat) p'), .int .i64 m, .slice (some ⟨xa', 0, none⟩) 3 xc'] 33)).heap.size)) (w5.alloc (.cells #[.int .i64 (tot Ls' : Nat), .int .i64 (pst (tot Ls' : Nat) p'), .int .i64 m, .slice (some ⟨xa', 0, none⟩) 3 xc'] 33)) (.slice (some ⟨xa', 0, none⟩) 3 xc') Ls' ∧ Below (wo.alloc (.cells #[.int .i64 4, .int .i64 rr, .int .i64 nn, .slice ba b.length bc] 37)).heap.size (wo.alloc (.cells #[.int .i64 4, .int .i64 rr, .int .i64 nn, .slice ba b.length bc] 37)) (w5.alloc (.cells #[.int .i64 (tot Ls' : Nat), .int .i64 (pst (tot Ls' : Nat) p'), .int .i64 m, .slice (some ⟨xa', 0, none⟩) 3 xc'] 33))) := by
                        have hb5 := B5.out.size
                        refine ⟨new_at _ _, hb5, M5.out.frame (fun k hk => A6.block k ?_) (fun k hk => ?_), B5.out.trans (A6.mono hb5)⟩
                        · rcases hk with hk | hk
                          · have := HP0R.out.glt k hk; omega
                          · exact hk.2
                        · rcases hk with hk | hk
                          · exact .inl hk
                          · exact .inr ⟨hk.1, by omega⟩
                      go_wp2
                      go_meet
                      exact ⟨w5.heap.size, xa', xc', oa, oc, rfl, rfl, HX.out.1, HX.out.2.1, HX.out.2.2.1, HX.out.2.2.2⟩
                    · have K := set4_kp w5 (wo.heap.size + 1) (.int .i64 (tot Ls' : Nat)) (.int .i64 (pst (tot Ls' : Nat) p')) (.int .i64 m) (.slice (some ⟨xa', 0, none⟩) 3 xc')
                      have N5 : w5.heap[wo.heap.size + 1]? = some (.cells #[.int .i64 0, .int .i64 0, .int .i64 0, .slice none 0 0] 33) := by
                        have k := new_at (wo.alloc (.cells #[.int .i64 4, .int .i64 rr, .int .i64 nn, .slice ba b.length bc] 37)) (.cells #[.int .i64 0, .int .i64 0, .int .i64 0, .slice none 0 0] 33)
                        rw [hs1] at k
                        exact (B5.out.block (wo.heap.size + 1) (by omega)).trans k
                      have X := rblk_set N5 (.int .i64 (tot Ls' : Nat)) (.int .i64 (pst (tot Ls' : Nat) p')) (.int .i64 m) (.slice (some ⟨xa', 0, none⟩) 3 xc')
                      have HX : Hid ((((((w5.setCell ⟨wo.heap.size + 1, 0, none⟩ (.int .i64 (tot (Ls') : Nat))).setCell ⟨wo.heap.size + 1, 1, none⟩ (.int .i64 (pst (tot (Ls') : Nat) p'))).setCell ⟨wo.heap.size + 1, 2, none⟩ (.int .i64 m)).setCell ⟨wo.heap.size + 1, 3, none⟩ (.slice (some ⟨xa', 0, none⟩) 3 xc'))).heap[wo.heap.size + 1]? = some (.cells #[.int .i64 (tot Ls' : Nat), .int .i64 (pst (tot Ls' : Nat) p'), .int .i64 m, .slice (some ⟨xa', 0, none⟩) 3 xc'] 33) ∧ (wo.alloc (.cells #[.int .i64 4, .int .i64 rr, .int .i64 nn, .slice ba b.length bc] 37)).heap.size ≤ wo.heap.size + 1 ∧ Mat (fun k => (G k ∨ (wo.heap.size ≤ k ∧ k < wo.heap.size + 1)) ∨ ((wo.alloc (.cells #[.int .i64 4, .int .i64 rr, .int .i64 nn, .slice ba b.length bc] 37)).heap.size ≤ k ∧ k < (((((w5.setCell ⟨wo.heap.size + 1, 0, none⟩ (.int .i64 (tot (Ls') : Nat))).setCell ⟨wo.heap.size + 1, 1, none⟩ (.int .i64 (pst (tot (Ls') : Nat) p'))).setCell ⟨wo.heap.size + 1, 2, none⟩ (.int .i64 m)).setCell ⟨wo.heap.size + 1, 3, none⟩ (.slice (some ⟨xa', 0, none⟩) 3 xc'))).heap.size)) ((((w5.setCell ⟨wo.heap.size + 1, 0, none⟩ (.int .i64 (tot (Ls') : Nat))).setCell ⟨wo.heap.size + 1, 1, none⟩ (.int .i64 (pst (tot (Ls') : Nat) p'))).setCell ⟨wo.heap.size + 1, 2, none⟩ (.int .i64 m)).setCell ⟨wo.heap.size + 1, 3, none⟩ (.slice (some ⟨xa', 0, none⟩) 3 xc')) (.slice (some ⟨xa', 0, none⟩) 3 xc') Ls' ∧ Below (wo.alloc (.cells #[.int .i64 4, .int .i64 rr, .int .i64 nn, .slice ba b.length bc] 37)).heap.size (wo.alloc (.cells #[.int .i64 4, .int .i64 rr, .int .i64 nn, .slice ba b.length bc] 37)) ((((w5.setCell ⟨wo.heap.size + 1, 0, none⟩ (.int .i64 (tot (Ls') : Nat))).setCell ⟨wo.heap.size + 1, 1, none⟩ (.int .i64 (pst (tot (Ls') : Nat) p'))).setCell ⟨wo.heap.size + 1, 2, none⟩ (.int .i64 m)).setCell ⟨wo.heap.size + 1, 3, none⟩ (.slice (some ⟨xa', 0, none⟩) 3 xc'))) := by
                        have hb5 := B5.out.size
                        have ks := K.size
                        refine ⟨X, by omega, M5.out.frame (fun k hk => K.block k ?_ ?_) (fun k hk => ?_), (JA.trans (B5.out.mono JA.size)).trans (kp_below K (by omega) (by omega))⟩
                        · rcases hk with hk | hk
                          · have := HP0R.out.glt k hk; omega
                          · exact hk.2
                        · rcases hk with hk | hk
                          · have := HP0R.out.glt k hk; omega
                          · omega
                        · rcases hk with hk | hk
                          · exact .inl hk
                          · exact .inr ⟨by omega, by omega⟩
                      go_wp2
                      go_meet
                      exact ⟨wo.heap.size + 1, xa', xc', oa, oc, rfl, rfl, HX.out.1, HX.out.2.1, HX.out.2.2.1, HX.out.2.2.2⟩
                  case rest =>
                    obtain ⟨b24, xa', xc', oa, oc, rfl, rfl, hN24, hb24, hMx, hBx⟩ := hcut
                    clear TA TB IA IB JA i0 i1 i2 i3 tg n3 n4
                    have l24 := heap_lt hN24.out
                    have f0 : wc.cell? ⟨b24, 0, none⟩ = some (.int .i64 (tot Ls' : Nat)) := ring_cell hN24.out rfl
                    have f1 : wc.cell? ⟨b24, 1, none⟩ = some (.int .i64 (pst (tot Ls' : Nat) p')) := ring_cell hN24.out rfl
                    have f2 : wc.cell? ⟨b24, 2, none⟩ = some (.int .i64 m) := ring_cell hN24.out rfl
                    have f3 : wc.cell? ⟨b24, 3, none⟩ = some (.slice (some ⟨xa', 0, none⟩) 3 xc') := ring_cell hN24.out rfl
                    obtain ⟨R7, K7, s7⟩ := HP0R.out.ri.store0 (q' := pst (tot Ls' : Nat) p') hBx.out hMx.out HL5.out
                    have hb5 := (hBx.out.block bx hbx0).trans HP0R.out.xb
                    have hbx5 := heap_lt hb5
                    have hbrl := HP0R.out.glt br HP0R.out.gr
                    have hbr5 : br < wc.heap.size := Nat.lt_of_lt_of_le hbrl hBx.out.size
                    have hnbr : ¬ br = bx := fun e => HP0R.out.nb (e ▸ HP0R.out.gr)
                    have hnbr' : ¬ bx = br := fun e => hnbr e.symm
                    have e0 : wc.cell? ⟨bx, 0, none⟩ = some (.int .i64 (tot Ls : Nat)) := ring_cell hb5 rfl
                    have e1 : wc.cell? ⟨bx, 1, none⟩ = some (.int .i64 (pst (tot Ls : Nat) p)) := ring_cell hb5 rfl
                    have e2 : wc.cell? ⟨bx, 2, none⟩ = some (.int .i64 m) := ring_cell hb5 rfl
                    have e3 : wc.cell? ⟨bx, 3, none⟩ = some (.slice (some ⟨ya, 0, none⟩) 3 yc) := ring_cell hb5 rfl
                    have z0 : wc.frozen? ⟨bx, 0, none⟩ = false := ring_z hb5
                    have z1 : wc.frozen? ⟨bx, 1, none⟩ = false := ring_z hb5
                    have z2 : wc.frozen? ⟨bx, 2, none⟩ = false := ring_z hb5
                    have z3 : wc.frozen? ⟨bx, 3, none⟩ = false := ring_z hb5
                    have t5 : wc.cell? ⟨br, j, none⟩ = some (.pointer (some ⟨r, 0, none⟩)) := by
                      have k := (hBx.out.block br hbrl).trans HP0R.out.rb
                      refine ring_cell k ?_
                      rw [List.getElem?_toArray, List.getElem?_map, hr]; rfl
                    have M7 : Many (fun k => ((G k ∨ (wo.heap.size ≤ k ∧ k < wo.heap.size + 1)) ∨ ((wo.alloc (.cells #[.int .i64 4, .int .i64 rr, .int .i64 nn, .slice ba b.length bc] 37)).heap.size ≤ k ∧ k < wc.heap.size)) ∨ k = bx) w ((((wc.setCell ⟨bx, 0, none⟩ (.int .i64 (tot (Ls') : Nat))).setCell ⟨bx, 1, none⟩ (.int .i64 (pst (tot (Ls') : Nat) p'))).setCell ⟨bx, 2, none⟩ (.int .i64 m)).setCell ⟨bx, 3, none⟩ (.slice (some ⟨xa', 0, none⟩) 3 xc')) mb rs Ls m p := HP0R.out.many.step K7 (fun i hi => ⟨.inl (.inr hi), by rw [hi]; exact HP0R.out.hx⟩) (fun i hi => by
                      rcases hi with (hi | hi) | hi
                      · exact .inl (.inl hi)
                      · exact .inr ⟨by omega, by omega⟩
                      · exact .inl (.inr hi))
                    have HDR : Hid (Calls Try.prog 14 #[.pointer (some ⟨r, 0, none⟩)] ((((wc.setCell ⟨bx, 0, none⟩ (.int .i64 (tot (Ls') : Nat))).setCell ⟨bx, 1, none⟩ (.int .i64 (pst (tot (Ls') : Nat) p'))).setCell ⟨bx, 2, none⟩ (.int .i64 m)).setCell ⟨bx, 3, none⟩ (.slice (some ⟨xa', 0, none⟩) 3 xc')) fun e w' => e = .returned (.int .i64 L.length) ∧ Many (fun k => ((G k ∨ (wo.heap.size ≤ k ∧ k < wo.heap.size + 1)) ∨ ((wo.alloc (.cells #[.int .i64 4, .int .i64 rr, .int .i64 nn, .slice ba b.length bc] 37)).heap.size ≤ k ∧ k < wc.heap.size)) ∨ k = bx) w w' mb rs Ls' m p' ∧ (∀ k, (((G k ∨ (wo.heap.size ≤ k ∧ k < wo.heap.size + 1)) ∨ ((wo.alloc (.cells #[.int .i64 4, .int .i64 rr, .int .i64 nn, .slice ba b.length bc] 37)).heap.size ≤ k ∧ k < wc.heap.size)) ∨ k = bx) → w'.heap[k]? = (((((wc.setCell ⟨bx, 0, none⟩ (.int .i64 (tot (Ls') : Nat))).setCell ⟨bx, 1, none⟩ (.int .i64 (pst (tot (Ls') : Nat) p'))).setCell ⟨bx, 2, none⟩ (.int .i64 m)).setCell ⟨bx, 3, none⟩ (.slice (some ⟨xa', 0, none⟩) 3 xc'))).heap[k]?) ∧ (((((wc.setCell ⟨bx, 0, none⟩ (.int .i64 (tot (Ls') : Nat))).setCell ⟨bx, 1, none⟩ (.int .i64 (pst (tot (Ls') : Nat) p'))).setCell ⟨bx, 2, none⟩ (.int .i64 m)).setCell ⟨bx, 3, none⟩ (.slice (some ⟨xa', 0, none⟩) 3 xc'))).heap.size ≤ w'.heap.size) := HMTK.out _ _ M7
                    have HR7 : Hid (RI ((((wc.setCell ⟨bx, 0, none⟩ (.int .i64 (tot (Ls') : Nat))).setCell ⟨bx, 1, none⟩ (.int .i64 (pst (tot (Ls') : Nat) p'))).setCell ⟨bx, 2, none⟩ (.int .i64 m)).setCell ⟨bx, 3, none⟩ (.slice (some ⟨xa', 0, none⟩) 3 xc')) (fun k => (G k ∨ (wo.heap.size ≤ k ∧ k < wo.heap.size + 1)) ∨ ((wo.alloc (.cells #[.int .i64 4, .int .i64 rr, .int .i64 nn, .slice ba b.length bc] 37)).heap.size ≤ k ∧ k < wc.heap.size)) bx br rs Ls' m (pst (tot Ls' : Nat) p') xa' xc') := R7
                    have HOLD : Hid (w.heap.size ≤ bx ∧ (∀ k, k < w.heap.size → G k)) := ⟨HP0R.out.hx, HG1.out⟩
                    have nb24 : ¬ b24 = bx := by have := hb24.out; omega
                    have nb24' : ¬ bx = b24 := by have := hb24.out; omega
                    clear M7 R7 K7 s7 hb5 hMx hBx hN24 hb24 HMTK HP0R
                    go_wp2_with fail
                    refine HDR.out.mono ?_
                    rintro e w8 ⟨rfl, M8, F8, s8⟩
                    obtain ⟨L', hLz⟩ := HLZ.out
                    have PIx : Hid (PI w w8 (fun k => (G k ∨ (wo.heap.size ≤ k ∧ k < wo.heap.size + 1)) ∨ ((wo.alloc (.cells #[.int .i64 4, .int .i64 rr, .int .i64 nn, .slice ba b.length bc] 37)).heap.size ≤ k ∧ k < wc.heap.size)) mb bx br rs Ls' m p' xa' xc') := HR7.out.pi (fun k hk => F8 k hk) HOLD.out.1 (fun k hk => .inl (.inl (HOLD.out.2 k hk))) M8
                    clear M8 F8 s8 HDR HR7 HOLD e0 e1 e2 e3 z0 z1 z2 z3 t5 f0 f1 f2 f3
                    have hB9 := PIx.out.many.bel
                    have HH : Hid (∀ n, Calls Try.prog 15 #[.pointer (some ⟨mb, 0, none⟩)] (w8.drewN n) fun e w' => e = .returned (.int .i64 (tot Ls' : Nat)) ∧ w' = w8.drewN n) := fun n => held_q mb _ _ _ _ (PIx.out.many.drewN n).isM
                    have HP : Hid (∀ n, Calls Try.prog 16 #[.pointer (some ⟨mb, 0, none⟩)] (w8.drewN n) fun e w' => e = .returned (.int .i64 (pst (tot Ls' : Nat) p')) ∧ w' = w8.drewN n) := fun n => peak_q mb _ _ _ _ _ (PIx.out.many.drewN n).isM rfl
                    have HLN : Hid (∀ n, Calls Try.prog 17 #[.pointer (some ⟨r, 0, none⟩)] (w8.drewN n) fun e w' => e = .returned (.int .i64 L'.length) ∧ w' = w8.drewN n) := fun n => many_len j r L' (PIx.out.many.drewN n) hr hLz
                    have t0 : w8.cell? ⟨bx, 0, none⟩ = some (.int .i64 (tot Ls' : Nat)) := ring_cell PIx.out.xb rfl
                    have t1 : w8.cell? ⟨bx, 1, none⟩ = some (.int .i64 (pst (tot Ls' : Nat) p')) := ring_cell PIx.out.xb rfl
                    have t3 : w8.cell? ⟨bx, 3, none⟩ = some (.slice (some ⟨xa', 0, none⟩) 3 xc') := ring_cell PIx.out.xb rfl
                    have tr := PIx.out.ring j r hr
                    obtain ⟨sa9, sc9, tg⟩ : ∃ sa sc, w8.cell? ⟨xa', j, none⟩ = some (.slice sa L'.length sc) := by
                      obtain ⟨hjl, hje⟩ := List.getElem?_eq_some_iff.1 hLz
                      obtain ⟨b', c', k', sa, sc, q1, q2, q3, _⟩ := PIx.out.mat.at j hjl
                      have q4 : b' = xa' := by
                        obtain ⟨z, _, _⟩ := slice_inj q1
                        simpa using z.symm
                      subst q4
                      rw [hje] at q3
                      exact ⟨sa, sc, q3⟩
                    have HPX : Hid (∀ n, ∃ G, PI w (w8.drewN n) G mb bx br rs Ls' m p' xa' xc') := fun n => ⟨_, PIx.out.below ((But.drewN w8.heap.size n w8).below (Nat.le_refl _))⟩
                    have HBZ : Hid (w8.heap.size = w8.heap.size) := rfl
                    clear PIx hLz hB9
                    generalize ((tot Ls' : Nat) : Int) = tt at *
                    generalize pst tt p' = pq at *
                    generalize L'.length = l9 at *
                    go_wp2_with fail
                    go_quiet (first | (go_at_call 15; exact Calls.quiet_of_same (HH.out _)) | (go_at_call 16; exact Calls.quiet_of_same (HP.out _)) | (go_at_call 17; exact Calls.quiet_of_same (HLN.out _)))
                    go_wp2
                    go_roundw
                    case rel =>
                      obtain ⟨G', hG'⟩ := HPX.out nq
                      exact ⟨i + 1, u + (mn + 10), G', Ls', p', xa', xc', by omega, by go_num, by go_num, by omega, hG'⟩
                    case measure => simp [intOf]; omega
              · as_aux_lemma =>
                  have PIx := hP0
                  have hLz := hL
                  clear hPI hP0 hS' hko' U hbel
                  have hB9 := PIx.out.many.bel
                  have HH : Hid (∀ n, Calls Try.prog 15 #[.pointer (some ⟨mb, 0, none⟩)] ((wo.alloc (.cells #[.int .i64 kd, .int .i64 rr, .int .i64 nn, .slice ba b.length bc] 37)).drewN n) fun e w' => e = .returned (.int .i64 (tot Ls : Nat)) ∧ w' = (wo.alloc (.cells #[.int .i64 kd, .int .i64 rr, .int .i64 nn, .slice ba b.length bc] 37)).drewN n) := fun n => held_q mb _ _ _ _ (PIx.out.many.drewN n).isM
                  have HP : Hid (∀ n, Calls Try.prog 16 #[.pointer (some ⟨mb, 0, none⟩)] ((wo.alloc (.cells #[.int .i64 kd, .int .i64 rr, .int .i64 nn, .slice ba b.length bc] 37)).drewN n) fun e w' => e = .returned (.int .i64 (pst (tot Ls : Nat) p)) ∧ w' = (wo.alloc (.cells #[.int .i64 kd, .int .i64 rr, .int .i64 nn, .slice ba b.length bc] 37)).drewN n) := fun n => peak_q mb _ _ _ _ _ (PIx.out.many.drewN n).isM rfl
                  have HLN : Hid (∀ n, Calls Try.prog 17 #[.pointer (some ⟨r, 0, none⟩)] ((wo.alloc (.cells #[.int .i64 kd, .int .i64 rr, .int .i64 nn, .slice ba b.length bc] 37)).drewN n) fun e w' => e = .returned (.int .i64 L.length) ∧ w' = (wo.alloc (.cells #[.int .i64 kd, .int .i64 rr, .int .i64 nn, .slice ba b.length bc] 37)).drewN n) := fun n => many_len j r L (PIx.out.many.drewN n) hr hLz
                  have t0 : (wo.alloc (.cells #[.int .i64 kd, .int .i64 rr, .int .i64 nn, .slice ba b.length bc] 37)).cell? ⟨bx, 0, none⟩ = some (.int .i64 (tot Ls : Nat)) := ring_cell PIx.out.xb rfl
                  have t1 : (wo.alloc (.cells #[.int .i64 kd, .int .i64 rr, .int .i64 nn, .slice ba b.length bc] 37)).cell? ⟨bx, 1, none⟩ = some (.int .i64 (pst (tot Ls : Nat) p)) := ring_cell PIx.out.xb rfl
                  have t3 : (wo.alloc (.cells #[.int .i64 kd, .int .i64 rr, .int .i64 nn, .slice ba b.length bc] 37)).cell? ⟨bx, 3, none⟩ = some (.slice (some ⟨ya, 0, none⟩) 3 yc) := ring_cell PIx.out.xb rfl
                  have tr := PIx.out.ring j r hr
                  obtain ⟨sa9, sc9, tg⟩ : ∃ sa sc, (wo.alloc (.cells #[.int .i64 kd, .int .i64 rr, .int .i64 nn, .slice ba b.length bc] 37)).cell? ⟨ya, j, none⟩ = some (.slice sa L.length sc) := by
                    obtain ⟨hjl, hje⟩ := List.getElem?_eq_some_iff.1 hLz
                    obtain ⟨b', c', k', sa, sc, q1, q2, q3, _⟩ := PIx.out.mat.at j hjl
                    have q4 : b' = ya := by
                      obtain ⟨z, _, _⟩ := slice_inj q1
                      simpa using z.symm
                    subst q4
                    rw [hje] at q3
                    exact ⟨sa, sc, q3⟩
                  have HPX : Hid (∀ n, ∃ G, PI w ((wo.alloc (.cells #[.int .i64 kd, .int .i64 rr, .int .i64 nn, .slice ba b.length bc] 37)).drewN n) G mb bx br rs Ls m p ya yc) := fun n => ⟨_, PIx.out.below ((But.drewN (wo.alloc (.cells #[.int .i64 kd, .int .i64 rr, .int .i64 nn, .slice ba b.length bc] 37)).heap.size n (wo.alloc (.cells #[.int .i64 kd, .int .i64 rr, .int .i64 nn, .slice ba b.length bc] 37))).below (Nat.le_refl _))⟩
                  have HBZ : Hid ((wo.alloc (.cells #[.int .i64 kd, .int .i64 rr, .int .i64 nn, .slice ba b.length bc] 37)).heap.size = (wo.alloc (.cells #[.int .i64 kd, .int .i64 rr, .int .i64 nn, .slice ba b.length bc] 37)).heap.size) := rfl
                  clear PIx hLz hB9
                  generalize ((tot Ls : Nat) : Int) = tt at *
                  generalize pst tt p = pq at *
                  generalize L.length = l9 at *
                  go_wp2_with fail
                  go_quiet (first | (go_at_call 15; exact Calls.quiet_of_same (HH.out _)) | (go_at_call 16; exact Calls.quiet_of_same (HP.out _)) | (go_at_call 17; exact Calls.quiet_of_same (HLN.out _)))
                  go_wp2
                  go_roundw
                  case rel =>
                    obtain ⟨G', hG'⟩ := HPX.out nq
                    exact ⟨i + 1, u + (mn + 10), G', Ls, p, ya, yc, by omega, by go_num, by go_num, by omega, hG'⟩
                  case measure => simp [intOf]; omega
    · obtain rfl : i = len := by omega
      have hbel := hPI.out.many.bel
      clear hPI
      go_wp2
      go_ret
      exact ⟨rfl, hbel⟩
end Go.Proofs.Ytenajbefknlalaa
