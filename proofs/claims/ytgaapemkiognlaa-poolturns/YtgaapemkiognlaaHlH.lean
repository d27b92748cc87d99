/- PoolTurns, walked. -/
import Derived.Test.YtgaapemkiognlaaHlG
namespace Go.Proofs.Ytgaapemkiognlaa
open Go.RowKit
set_option linter.unusedVariables false

theorem up_set {w : World} {ub : Nat} {v v' : Value} (h : w.heap[ub]? = some (.cells #[.string kU, v] 32)) : (w.setCell ⟨ub, 1, none⟩ v').heap[ub]? = some (.cells #[.string kU, v'] 32) := by
  simp [World.setCell, Array.getElem?_modify, h]
theorem up_z {w : World} {ub : Nat} {v : Value} (h : w.heap[ub]? = some (.cells #[.string kU, v] 32)) (o : Nat) : w.frozen? ⟨ub, o, none⟩ = false := by simp [World.frozen?, h]
/-- Within a round, ahead of the pick j. -/
def L2 (i k j n tn : Nat) (t : KS → Int) : Prop := t kU = (tn : Int) ∧ tn ≤ i ∧ tn % i = j % i ∧ n ≤ 8 * k + j ∧ (j = i → tn = i)
theorem tx_at {W : World} {g off : Nat} {xs : List KS} (h : Tx W (some ⟨g, off, none⟩) xs) {i : Nat} (hi : i < xs.length) : W.cell? ⟨g, off + i, none⟩ = some (.string (xs.getD i ⟨#[]⟩)) := by
  obtain ⟨g', off', e, _, hc⟩ := h.2.2 (by omega)
  injection e with e
  injection e with e1 e2 _
  subst e1 e2
  exact hc i hi
set_option maxRecDepth 100000 in
set_option maxHeartbeats 4000000 in
theorem turns17_walk (x0 x1 x2 : Int) (w : World) : Calls Try.prog 6 #[.int .i64 x0, .int .i64 x1, .int .i64 x2] w fun e w' => e = .returned (.bool true) ∧ Below w.heap.size w w' := by
  have hmm := @ run_makeMap Try.prog
  have HCA := hidE (fun W => caring_any W)
  have HNW := hidE (fun W => hlnew_any W)
  obtain ⟨k0, hk0, hb0⟩ := and_mask x0 7 (by decide)
  obtain ⟨ss, hk1, hb1⟩ := and_mask x1 1023 (by decide)
  obtain ⟨rr, hk2, hb2⟩ := and_mask x2 15 (by decide)
  have hb0' : bits BinOp.and IntKind.i64 x0 7 = (k0 : Int) := hb0
  have hb1' : bits BinOp.and IntKind.i64 x1 1023 = (ss : Int) := hb1
  have hb2' : bits BinOp.and IntKind.i64 x2 15 = (rr : Int) := hb2
  obtain ⟨N, hN⟩ : ∃ N : Nat, N = 1 + k0 := ⟨_, rfl⟩
  have hw1 : IntKind.i64.wrap (1 + (k0 : Int)) = (N : Int) := by rw [hN, IntKind.wrap_i64]; omega
  have hN1 : 1 ≤ N := by omega
  have hN2 : N ≤ 8 := by omega
  clear hb0 hb1 hb2 hN hk0
  go_enter Try.func6, Try.ntmps6
  go_wp2_with fail
  refine (HCA.out _).mono ?_
  rintro e w1 ⟨rfl, B1⟩
  clear HCA
  have BA : Below w1.heap.size w1 (w1.alloc (.cells #[.string kU, .slice none 0 0] 32)) := (Below.refl _ _).alloc (Nat.le_refl _) _
  have HB2 : Hid (Below w.heap.size w (w1.alloc (.cells #[.string kU, .slice none 0 0] 32))) := B1.trans (BA.mono B1.size)
  have HTU := hidE (tblk_new w1 (.cells #[.string kU, .slice none 0 0] 32))
  have HUB : Hid (w.heap.size ≤ w1.heap.size) := B1.size
  clear BA B1
  go_wp2_with fail
  generalize (w1.alloc (.cells #[.string kU, .slice none 0 0] 32)) = w2 at *
  generalize w1.heap.size = ub at *
  go_loopw [8] (fun vi wr => ∃ (i : Nat) (v : Value), i ≤ N ∧ vi = .int .i64 i ∧ Hid (wr.heap[ub]? = some (.cells #[.string kU, v] 32)) ∧ Hid (OT w.heap.size wr v (xsN i)) ∧ Hid (Below w.heap.size w wr)) (fun vi _ => N - (intOf vi).toNat)
  case atStart => exact ⟨0, _, Nat.zero_le _, rfl, HTU, OT.nil _ _, HB2⟩
  case round =>
    clear HTU HB2
    obtain ⟨i, v, hi, rfl, HU, HO, HB⟩ := hrel
    by_cases hlt : i < N
    · obtain ⟨av, cv, hv⟩ := HO.out.form
      rw [xsN_len] at hv
      subst hv
      have u1 : wr.cell? ⟨ub, 1, none⟩ = some (.slice av i cv) := tblk_cell HU.out rfl
      have BB : Below wr.heap.size wr (wr.alloc (.cells #[.int .u8 (97 + (i : Int))] 5)) := (Below.refl _ _).alloc (Nat.le_refl _) _
      have es : (wr.alloc (.cells #[.int .u8 (97 + (i : Int))] 5)).heap.size = wr.heap.size + 1 := by simp
      have hcv := conv_nm (wr.alloc (.cells #[.int .u8 (97 + (i : Int))] 5)) i wr.heap.size (by omega) (tblk_cell (tblk_new _ _) rfl)
      obtain ⟨v7, w7, r7, O7, B7, K7⟩ := ot_append (HO.out.grow BB) (Nat.le_trans HB.out.size BB.size) (nmK i) (by rw [xsN_len]; omega)
      rw [← xsN_snoc] at O7
      rw [es] at r7
      obtain ⟨a7, c7, hv7⟩ := O7.form
      rw [xsN_len] at hv7
      subst hv7
      have hub : ub < wr.heap.size := (Array.getElem?_eq_some_iff.1 HU.out).1
      have U7 : w7.heap[ub]? = some (.cells #[.string kU, .slice av i cv] 32) := (K7 ub (by rw [es]; omega) (fun e => by
        obtain ⟨cur, hc⟩ := (HO.out.grow BB).blk ub e
        rw [BB.block ub hub, HU.out] at hc
        injection hc with hc
        injection hc with _ e _
        exact absurd e (by decide))).trans ((BB.block ub hub).trans HU.out)
      have z1 := up_z U7 1
      have HU7 := hidE (up_set (v' := .slice a7 (i + 1) c7) U7)
      have HO7 := hidE (O7.set (o := 1) (x := .slice a7 (i + 1) c7) U7)
      have b7 : Below w.heap.size w w7 := (HB.out.trans (BB.mono HB.out.size)).trans B7
      have HB7 : Hid (Below w.heap.size w (w7.setCell ⟨ub, 1, none⟩ (.slice a7 (i + 1) c7))) := b7.setCell (p := ⟨ub, 1, none⟩) HUB.out _
      have u7 : w7.cell? ⟨ub, 1, none⟩ = some (.slice av i cv) := tblk_cell U7 rfl
      have f1 : IntKind.i64.wrap (97 + (i : Int)) = 97 + (i : Int) := by rw [IntKind.wrap_i64]; omega
      have f2 : IntKind.u8.wrap (97 + (i : Int)) = 97 + (i : Int) := by rw [IntKind.wrap_u8]; omega
      have m1 : (i : Int) < N := by omega
      clear HU HO HB BB es O7 B7 K7 U7 b7 hub
      go_wp2_with (at_builtin; refine wpList_append_run2 rfl _ _ 30 30 rfl _ _ _ w7 rfl rfl r7 ?_)
      go_roundw
      case rel => exact ⟨i + 1, _, by omega, by go_num, HU7, HO7, HB7⟩
      case measure => simp [intOf]; omega
    · obtain rfl : i = N := by omega
      obtain ⟨av, cv, hv⟩ := HO.out.form
      subst hv
      have HTX := hidE (HO.out.tx (by rw [xsN_len]; omega) (xsN_sz i))
      obtain ⟨g, off, rfl, _, _⟩ := HTX.out.2.2 (by rw [xsN_len]; omega)
      go_wp2_with fail
      refine (HNW.out _).mono ?_
      rintro e w5 ⟨rfl, H5, B5⟩
      have HC5 : Hid (CS w5 (wr.heap.size + 3) wr.heap.size (wr.heap.size + 1) (wr.heap.size + 2) 0 (fun _ => 0) (fun _ => 0) (fun _ => none) ub kU (some ⟨g, off, none⟩) cv (xsN i) w) :=
        ⟨H5, HTX.out.keep B5, (B5.cell (p := ⟨ub, 0, none⟩) (Array.getElem?_eq_some_iff.1 HU.out).1).trans (tblk_cell HU.out rfl), (B5.cell (p := ⟨ub, 1, none⟩) (Array.getElem?_eq_some_iff.1 HU.out).1).trans (tblk_cell HU.out rfl), HB.out.trans (B5.mono HB.out.size), HB.out.size, by have := HB.out.size; omega, by have := HB.out.size; omega⟩
      have HAB : Hid (wr.heap.size + 2 < w5.heap.size) := H5.qa.lt
      clear HU HO HB HTX H5 B5 HNW
      generalize wr.heap.size + 3 = h at *
      generalize hb : wr.heap.size + 1 = b at *
      generalize hc : wr.heap.size + 2 = c at *
      generalize wr.heap.size = a at *
      have HBC : Hid (b = a + 1 ∧ c = a + 2) := ⟨hb.symm, hc.symm⟩
      clear hb hc hi hlt
      go_wp2_with fail
      go_loopw [10] (fun vk wr => ∃ (k n tn : Nat) (t : KS → Int), k ≤ rr ∧ vk = .int .i64 k ∧ Hid (CS wr h a b c n t (fun _ => 0) (fun _ => none) ub kU (some ⟨g, off, none⟩) cv (xsN i) w) ∧ Hid (t kU = (tn : Int) ∧ (tn = 0 ∨ tn = i) ∧ n ≤ 8 * k)) (fun vk _ => rr - (intOf vk).toNat)
      case atStart => exact ⟨0, 0, 0, _, Nat.zero_le _, rfl, HC5, rfl, .inl rfl, Nat.le_refl _⟩
      case round =>
        clear HC5
        obtain ⟨k, n, tn, t, hk, rfl, HC, HI⟩ := hrel
        by_cases hlt : k < rr
        · have m1 : (k : Int) < rr := by omega
          go_wp2_with fail
          go_loopw [11] (fun vj wr => ∃ (j n tn : Nat) (t : KS → Int), j ≤ i ∧ vj = .int .i64 j ∧ Hid (CS wr h a b c n t (fun _ => 0) (fun _ => none) ub kU (some ⟨g, off, none⟩) cv (xsN i) w) ∧ Hid (L2 i k j n tn t)) (fun vj _ => i - (intOf vj).toNat)
          case atStart => exact ⟨0, n, tn, t, Nat.zero_le _, rfl, HC, HI.out.1, by have := HI.out.2.1; omega, by
            rcases HI.out.2.1 with q | q
            · rw [q]
            · rw [q, Nat.mod_self, Nat.zero_mod], HI.out.2.2, (fun q => by omega)⟩
          case round =>
            clear HC HI
            obtain ⟨j, n, tn, t, hj, rfl, HC, HI⟩ := hrel
            by_cases hji : j < i
            · obtain ⟨i1, i2, i3, i4, i5⟩ := HI.out
              rw [Nat.mod_eq_of_lt hji] at i3
              have ha : aimAt (xsN i) tn 0 = nmK j := by rw [aim_nm (by omega), Nat.add_zero, i3]
              have HP := hidE (pick_at HC.out (k : Int) tn 0 (by decide) (by omega) (by unfold InR; omega) i1 (by omega) (by rw [xsN_len]; omega) (fun j hj => absurd hj (Nat.not_lt_zero _)) rfl)
              rw [ha] at HP
              simp only [xsN_len, Nat.add_zero, i3] at HP
              have c0 := HC.out.c0
              have c1 := HC.out.c1
              rw [xsN_len] at c1
              have m2 : (j : Int) < i := by omega
              have m3 : (0 : Int) ≤ j := by omega
              have HI4 := hidE i4
              clear i1 i2 i3 i4 i5 HI ha
              go_wp2_with fail
              refine HP.out.mono ?_
              rintro e w6 ⟨rfl, C6⟩
              have HC6 := hidE C6
              have ec := tx_at C6.tx (i := j) (by rw [xsN_len]; omega)
              rw [xsN_at i j hji] at ec
              have c10 := C6.c1
              rw [xsN_len] at c10
              have HI2 : Hid (upd t kU ((j + 1 : Nat) : Int) kU = ((j + 1 : Nat) : Int) ∧ j + 1 ≤ i ∧ (j + 1) % i = (j + 1) % i ∧ n + 1 ≤ 8 * k + (j + 1) ∧ (j + 1 = i → j + 1 = i)) := ⟨upd_same _ _ _, by omega, rfl, by have := HI4.out; omega, id⟩
              have HI3 : L2 i k (j + 1) (n + 1) (j + 1) (upd t kU ((j + 1 : Nat) : Int)) := HI2.out
              have HI4' := hidE HI3
              clear HP C6 c0 c1 HI4 HI2 HI3 HC
              generalize hnm : nmK j = nj at *
              clear hnm
              go_wp2
              go_roundw
              case rel => exact ⟨j + 1, n + 1, j + 1, _, by omega, by go_num, HC6, HI4'⟩
              case measure => simp [intOf]; omega
            · obtain rfl : j = i := by omega
              have HI2 : Hid (t kU = (tn : Int) ∧ (tn = 0 ∨ tn = j) ∧ n ≤ 8 * (k + 1)) := ⟨HI.out.1, .inr (HI.out.2.2.2.2 rfl), by have := HI.out.2.2.2.1; omega⟩
              clear HI
              go_wp2
              go_roundw
              case rel => exact ⟨k + 1, n, tn, t, by omega, by go_num, HC, HI2⟩
              case measure => simp [intOf]; omega
        · obtain rfl : k = rr := by omega
          obtain ⟨i1, i2, i3⟩ := HI.out
          have HI1 := hidE i1
          have HI2 := hidE i2
          have HI3 : Hid (n ≤ 200) := by show _ ≤ _; omega
          obtain ⟨P, hP⟩ : ∃ P, P = ss % i := ⟨_, rfl⟩
          have hPi : P < i := by rw [hP]; exact Nat.mod_lt _ (by omega)
          have f1 : (ss : Int) % (i : Int) = (P : Int) := by rw [hP]; rfl
          have ec := tx_at HC.out.tx (i := P) (by rw [xsN_len]; exact hPi)
          rw [xsN_at i P hPi] at ec
          have c1 := HC.out.c1
          rw [xsN_len] at c1
          have m1 : (0 : Int) ≤ P := by omega
          have m2 : (P : Int) < i := by omega
          have f3 : ((i : Int) == 0) = false := by simp; omega
          have f4 : ¬ (i : Int) = 0 := by omega
          have f5 : IntKind.i64.wrap (P : Int) = (P : Int) := by rw [IntKind.wrap_i64]; omega
          have f6 : (ss : Int).tmod (i : Int) = (P : Int) := by rw [hP]; rfl
          have f7 : ¬ i = 0 := by omega
          clear i1 i2 i3 HI hP
          go_wp2_with fail
          go_region_held3 (fun W => W.cell? ⟨ub, 1, none⟩ = some (.slice (some ⟨g, off, none⟩) i cv) ∧ W.cell? ⟨g, off + P, none⟩ = some (.string (nmK P))) (go_keep) (first | fail)
          have HCD := hidE (HC.out.bel (Below.refl wr.heap.size wr).drew)
          have HBD := hidE (badyes_at HCD.out (nmK P) 100 1 10 (by show 1 ≤ _; decide) (by have := HI3.out; omega) (by decide) (by decide) (by unfold InR; omega) (by unfold InR; omega))
          clear HC ec c1 HCD
          generalize hnP : nmK P = nP at *
          have HNP := hidE hnP
          clear hnP
          go_wp2_with fail
          refine HBD.out.mono ?_
          rintro e w6 ⟨rfl, C6⟩
          clear HBD
          rw [← HNP.out] at C6
          have BM : Below w6.heap.size w6 (w6.alloc (.map #[] 0)) := (Below.refl _ _).alloc (Nat.le_refl _) _
          have HC7 := hidE (C6.bel BM)
          have HM7 := hidE (MT.new w6 i P tn)
          have HMK : Hid (w6.heap.size ≠ a ∧ w6.heap.size ≠ b ∧ w6.heap.size ≠ c ∧ w.heap.size ≤ w6.heap.size) := by
            have h1 := C6.hl.ta.lt; have h2 := C6.hl.fa.lt; have h3 := C6.hl.qa.lt; have h4 := C6.be.size
            exact ⟨by omega, by omega, by omega, h4⟩
          clear C6 BM
          go_wp2_with fail
          generalize w6.alloc (.map #[] 0) = w7 at *
          generalize w6.heap.size = mk at *
          generalize (upd (fun _ => 0) (nmK P) 0 : KS → Int) = ff at *
          go_loopw [16] (fun vk wr => ∃ (k n m : Nat) (t : KS → Int) (D : DataW Nat), k ≤ 3 * (i - 1) ∧ vk = .int .i64 k ∧ Hid (CS wr h a b c n t ff (upd (fun _ => none) (nmK P) (some (100, 10))) ub kU (some ⟨g, off, none⟩) cv (xsN i) w) ∧ Hid (t kU = ((stT i P tn k : Nat) : Int)) ∧ Hid (n ≤ 300 + k) ∧ Hid (MT wr mk m i P tn k D) ∧ Hid (m ≤ k)) (fun vk _ => 3 * (i - 1) - (intOf vk).toNat)
          case atStart => exact ⟨0, n + 1, 0, t, _, Nat.zero_le _, rfl, HC7, HI1, by have := HI3.out; show _ ≤ _; omega, HM7, Nat.le_refl _⟩
          case round =>
            clear HC7 HM7 HI1 HI3
            obtain ⟨k, n, m, t, D, hk3, rfl, HC, HT, HN4, HM, HM4⟩ := hrel
            have g1 : IntKind.i64.wrap ((i : Int) - 1) = (i : Int) - 1 := by rw [IntKind.wrap_i64]; omega
            have g2 : IntKind.i64.wrap (3 * ((i : Int) - 1)) = 3 * ((i : Int) - 1) := by rw [IntKind.wrap_i64]; omega
            have htl := stT_le (s := P) (t0 := tn) (show 0 < i by omega) (by rcases HI2.out with q | q <;> omega) k
            by_cases hlt4 : k < 3 * (i - 1)
            · have g3 : decide ((k : Int) < 3 * ((i : Int) - 1)) = true := decide_eq_true (by omega)
              have g4 : (k : Int) < 3 * ((i : Int) - 1) := by omega
              have HP := hidE (pick_sick HC.out 105 (stT i P tn k) (by have := HN4.out; omega) (by omega) (by omega) HT.out htl (by omega) (by omega) hPi)
              have hpl := place_lt (s := P) (tn := stT i P tn k) (show 0 < i by omega)
              have hne := place_ne ⟨i, by omega⟩ ⟨P, by omega⟩ ⟨stT i P tn k, by omega⟩ (by show 2 ≤ i; omega) hPi htl
              have c0 := HC.out.c0
              have c1 := HC.out.c1
              rw [xsN_len] at c1
              have hnb : (ByteArray.toList (nmK (placeOf i P (stT i P tn k))) == ByteArray.toList nP) = false := by
                rw [← HNP.out]
                exact nm_beq (by omega) (by omega) hne
              obtain ⟨pp, hpp⟩ : ∃ pp, pp = placeOf i P (stT i P tn k) := ⟨_, rfl⟩
              have HPP := hidE hpp
              rw [← hpp] at HP hnb hpl
              clear hne hpp htl
              go_wp2_with fail
              refine HP.out.mono ?_
              rintro e w8 ⟨rfl, C8, F8⟩
              obtain ⟨hlk, w9, r9, g9, M9⟩ := (HM.out.frm F8 HMK.out.1 HMK.out.2.1 HMK.out.2.2.1).step (by omega) (by have := HM4.out; omega) (by omega) pp hpl HPP.out.symm
              have hom8 := (HM.out.frm F8 HMK.out.1 HMK.out.2.1 HMK.out.2.2.1).1
              obtain ⟨es8, cl8, hb8, _⟩ := hom8
              have HC9 := hidE (C8.other hb8 g9 HMK.out.1 HMK.out.2.1 HMK.out.2.2.1 HMK.out.2.2.2)
              have HM9 := hidE M9
              have HT9 : Hid (upd t kU ((pp + 1 : Nat) : Int) kU = ((stT i P tn (k + 1) : Nat) : Int)) := by show _ = _; rw [upd_same, HPP.out]; rfl
              have HN9 : Hid (n + 1 ≤ 300 + (k + 1)) := by have := HN4.out; show _ ≤ _; omega
              have HM9' : Hid (m + 1 ≤ k + 1) := by have := HM4.out; show _ ≤ _; omega
              have hcl := cnt_le i P tn k pp
              have g5 : IntKind.i64.wrap (((cntP i P tn k pp : Nat) : Int) + 1) = ((cntP i P tn k pp : Nat) : Int) + 1 := by rw [IntKind.wrap_i64]; omega
              clear HP C8 F8 HC HM g9 M9 hb8 HT HN4 HM4 c0 c1 hcl
              generalize hnp : nmK pp = np at *
              generalize cntP i P tn k pp = cc at *
              go_wp2_with (at_mapUpdate; refine wpList_mapUpdate_run _ rfl _ _ _ 77 rfl _ _ _ w9 rfl rfl rfl r9 ?_)
              go_roundw
              case rel => exact ⟨k + 1, n + 1, m + 1, _, _, by omega, by go_num, HC9, HT9, HN9, HM9, HM9'⟩
              case measure => simp [intOf]; omega
            · obtain rfl : k = 3 * (i - 1) := by omega
              have g3 : decide (((3 * (i - 1) : Nat) : Int) < 3 * ((i : Int) - 1)) = false := decide_eq_false (by omega)
              have g4 : ¬ ((3 * (i - 1) : Nat) : Int) < 3 * ((i : Int) - 1) := by omega
              obtain ⟨wb, hwb⟩ : ∃ wb, wb = wr := ⟨_, rfl⟩
              subst hwb
              have hom := HM.out.1
              have HENT : Hid (∀ (x : ByteArray) (c : Int), (∀ zd, D.atKey (kL x) zd = .lit (.int .i64 c)) → c = 3) := fun x c hat => by
                obtain ⟨p, hp, rfl, hc0⟩ := HM.out.2.2 x (Maps.has_true_of_atKey hat)
                have e1 := HM.out.2.1 p hp
                rw [hat] at e1
                have e2 := lit_inj e1
                by_cases h2 : 2 ≤ i
                · have e3 := cnt_end (p := p) h2 (by omega) hPi hp HI2.out
                  rw [e3] at e2 hc0
                  by_cases hps : p = P
                  · rw [if_pos hps] at hc0; omega
                  · rw [if_neg hps] at e2; rw [e2]; rfl
                · obtain rfl : i = 1 := by omega
                  exact absurd hc0 (by show ¬ 0 < cntP 1 P tn 0 p; exact Nat.lt_irrefl 0)
              have HTL := hidE htl
              have hnn : Hid (n ≤ 1000) := by have := HN4.out; show _ ≤ _; omega
              generalize hKK : 3 * (i - 1) = KK at *
              clear hKK htl
              go_wp2_with (at_range; refine wpList_range_own _ rfl _ 77 rfl 9 3 KSt Try.underlying77 _ mk m D rfl hom ?_; intro w0 hrg0 hg0 hs0)
              try go_frame
              have HRG0 := hidE hrg0
              have HB0 : Hid (Below wb.heap.size wb w0) := (Below.refl _ _).grown hg0 (Nat.le_refl _) (fun k e => by cases e)
              clear hrg0 hg0 hs0 hom HM HM4
              go_loopw [] (fun wr => ∃ (left : Lit → Bool) (cnt : Nat), Hid (wr.ranges Try.prog 9 (plainElem Try.prog 3) mk wb.heap.size m D left cnt) ∧ Hid (Below wb.heap.size wb wr)) (fun wr => wr.rangeLeft mk wb.heap.size)
              case atStart => exact ⟨_, _, HRG0, HB0⟩
              case round =>
                clear HRG0 HB0
                obtain ⟨left, cnt, HRG, HB⟩ := hrel
                have hrg := HRG.out
                go_wp2_with (at_next; refine wpList_next_ranges_si _ rfl _ rfl mk wb.heap.size m D left cnt rfl hrg ?_ ?_)
                · intro hc0 hl0
                  have HCW := hidE (HC.out.bel HB.out)
                  have c0 := HCW.out.c0
                  have c1 := HCW.out.c1
                  rw [xsN_len] at c1
                  clear hc0 hl0 hrg HRG HB HC HENT HMK
                  generalize stT i P tn KK = T4 at *
                  by_cases h2 : 2 ≤ i
                  · have HP1 := hidE (pick_sick HCW.out 109 T4 (by have := hnn.out; omega) (by omega) (by omega) HT.out HTL.out h2 (by omega) hPi)
                    have hpl := place_lt (s := P) (tn := T4) (show 0 < i by omega)
                    have d1 : decide (1 < (i : Int)) = true := decide_eq_true (by omega)
                    have d1' : decide (1 < i) = true := decide_eq_true (by omega)
                    generalize placeOf i P T4 = pl at *
                    go_wp2_with fail
                    refine HP1.out.mono ?_
                    rintro e w8 ⟨rfl, C8, _⟩
                    have HP2 := hidE (pick_well C8 (pl + 1) (by have := hnn.out; omega) (upd_same _ _ _) (by omega) (by omega) (by omega) hPi)
                    have c80 := C8.c0
                    have c81 := C8.c1
                    rw [xsN_len] at c81
                    clear HP1 C8 HCW c0 c1
                    go_wp2_with fail
                    refine HP2.out.mono ?_
                    rintro e w9 ⟨⟨u9, rfl⟩, n9, t9, C9⟩
                    have HS1 := hidE (sick_at C9 nP 109 (by rw [← HNP.out]; show 1 ≤ _; decide) (by unfold InR; omega) true (by rw [← HNP.out, upd_same]; decide))
                    clear HP2 C9 c80 c81
                    go_wp2_with fail
                    refine HS1.out.mono ?_
                    rintro e w10 ⟨rfl, C10⟩
                    have HS2 := hidE (sick_at C10 nP 110 (by rw [← HNP.out]; show 1 ≤ _; decide) (by unfold InR; omega) false (by rw [← HNP.out, upd_same]; decide))
                    clear HS1 C10
                    go_wp2_with fail
                    refine HS2.out.mono ?_
                    rintro e w11 ⟨rfl, C11⟩
                    have HBE := hidE C11.be
                    clear HS2 C11
                    go_wp2
                    go_ret
                    exact ⟨by simp, HBE.out⟩
                  · obtain rfl : i = 1 := by omega
                    obtain rfl : P = 0 := by omega
                    have HP1 := hidE (pick_one HCW.out T4 (by have := hnn.out; omega) HT.out (by have := HTL.out; omega))
                    go_wp2_with fail
                    refine HP1.out.mono ?_
                    rintro e w8 ⟨rfl, C8⟩
                    have HP2 := hidE (pick_well C8 T4 (by have := hnn.out; omega) HT.out (by have := HTL.out; omega) (by omega) (by omega) (by omega))
                    have c80 := C8.c0
                    have c81 := C8.c1
                    rw [xsN_len] at c81
                    clear HP1 C8 HCW c0 c1
                    go_wp2_with fail
                    refine HP2.out.mono ?_
                    rintro e w9 ⟨⟨u9, rfl⟩, n9, t9, C9⟩
                    have HS1 := hidE (sick_at C9 nP 109 (by rw [← HNP.out]; show 1 ≤ _; decide) (by unfold InR; omega) true (by rw [← HNP.out, upd_same]; decide))
                    clear HP2 C9 c80 c81
                    go_wp2_with fail
                    refine HS1.out.mono ?_
                    rintro e w10 ⟨rfl, C10⟩
                    have HS2 := hidE (sick_at C10 nP 110 (by rw [← HNP.out]; show 1 ≤ _; decide) (by unfold InR; omega) false (by rw [← HNP.out, upd_same]; decide))
                    clear HS1 C10
                    go_wp2_with fail
                    refine HS2.out.mono ?_
                    rintro e w11 ⟨rfl, C11⟩
                    have HBE := hidE C11.be
                    clear HS2 C11
                    go_wp2
                    go_ret
                    exact ⟨by simp, HBE.out⟩
                · intro x c w8 cnt1 hat hrg1 hlt1 hg1 hs1 hen
                  obtain rfl := HENT.out x c hat
                  have HB1 : Hid (Below wb.heap.size wb w8) := HB.out.grown hg1 HB.out.size (fun k e => by cases e; exact Nat.le_refl _)
                  have HR1 := hidE hrg1
                  have HLT := hidE hlt1
                  clear hat hrg1 hlt1 hg1 hs1 HB
                  go_wp2
                  go_roundw
                  case rel => exact ⟨_, cnt1, HR1, HB1⟩
                  case measure =>
                    rw [HR1.out.left_eq, hrg.left_eq]
                    exact HLT.out
end Go.Proofs.Ytgaapemkiognlaa
