/- slices.SortStableFunc of at most 20 flows. -/
import Derived.Test.YtnfpbkllpkbdiaaRbB
namespace Go.Proofs.Ytnfpbkllpkbdiaa
open Go.RowKit
set_option linter.unusedVariables false

/-- What the comparing closure reads lies below B. -/
structure Env (B : Nat) (w : World) (p2 p rb : Nat) (q cr la : Int) : Prop where
  f : w.cell? ⟨p2, 0, none⟩ = some (.func (.func 10) #[] #[.pointer (some ⟨p, 0, none⟩)])
  f2 : p2 < B
  g : w.cell? ⟨p, 0, none⟩ = some (.pointer (some ⟨rb, 0, none⟩))
  g2 : p < B
  r : IsR w rb q cr la
  r2 : rb < B
  s : B ≤ w.heap.size
theorem Env.below {B : Nat} {w w' : World} {p2 p rb : Nat} {q cr la : Int} (h : Env B w p2 p rb q cr la) (b : Below B w w') : Env B w' p2 p rb q cr la :=
  ⟨(b.cell (p := ⟨p2, 0, none⟩) h.f2).trans h.f, h.f2, (b.cell (p := ⟨p, 0, none⟩) h.g2).trans h.g, h.g2, h.r.below b h.r2, h.r2, Nat.le_trans h.s b.size⟩
theorem Env.cmp {B : Nat} {w : World} {p2 p rb : Nat} {q cr la : Int} (h : Env B w p2 p rb q cr la) (x y : Fl) : Calls Try.prog 13 #[.agg #[.int .i64 x.1, .int .i64 x.2], .agg #[.int .i64 y.1, .int .i64 y.2], .pointer (some ⟨p2, 0, none⟩)] w fun e w' => e = .returned (.int .i64 (cmpU (awayK la x.1) (awayK la y.1))) ∧ Below w.heap.size w w' :=
  rbcmp_any x.1 x.2 y.1 y.2 q cr la p p2 rb w h.f (Nat.lt_of_lt_of_le h.f2 h.s) h.g (Nat.lt_of_lt_of_le h.g2 h.s) h.r
/-- Four cells of two neighbours. -/
def C4 (w : World) (g off j' j : Nat) (x y : Fl) : Prop := w.cell? ⟨g, off + j' * 2, none⟩ = some (.int .i64 x.1) ∧ w.cell? ⟨g, off + j' * 2 + 1, none⟩ = some (.int .i64 x.2) ∧ w.cell? ⟨g, off + j * 2, none⟩ = some (.int .i64 y.1) ∧ w.cell? ⟨g, off + j * 2 + 1, none⟩ = some (.int .i64 y.2)
theorem FO.c4 {w : World} {g off c : Nat} {s : List Fl} (h : FO w g off c s) (j : Nat) (hj : j + 1 < s.length) : C4 w g off (j + 1) j (s.getD (j + 1) (0, 0)) (s.getD j (0, 0)) :=
  ⟨h.c0 (j + 1) hj, h.c1 (j + 1) hj, h.c0 j (by omega), h.c1 j (by omega)⟩
set_option maxRecDepth 100000 in
set_option maxHeartbeats 4000000 in
theorem rbins_any (l : List Fl) (B g off c p2 p rb : Nat) (q cr la : Int) (w : World) (hl : l.length ≤ 1000000) (hF : FO w g off c l) (hg : B ≤ g) (hE : Env B w p2 p rb q cr la) (hc : c ≤ 9223372036854775807) :
    Calls Try.prog 22 #[.slice (some ⟨g, off, none⟩) l.length c, .int .i64 0, .int .i64 l.length, .func (.func 13) #[] #[.pointer (some ⟨p2, 0, none⟩)]] w fun e w' => e = .returned (.tuple #[]) ∧ ∃ s, FO w' g off c s ∧ Stab l s ∧ SrtTo la s s.length ∧ Below B w w' := by
  have HE : Hid (∀ W, Below B w W → Env B W p2 p rb q cr la) := fun W b => hE.below b
  have HS0 : Hid (FO w g off c l) := hF
  have hlc := hF.len
  obtain ⟨n, hn⟩ : ∃ n, n = l.length := ⟨_, rfl⟩
  have HN : Hid (l.length = n) := hn.symm
  rw [← hn] at hlc ⊢
  have hn0 : n ≤ 1000000 := by omega
  clear hn hl hF hE
  go_enter Try.func22, Try.ntmps22
  go_wp2_with fail
  go_loopw [8] (fun vi wr => ∃ (i : Nat) (s : List Fl), 1 ≤ i ∧ (i ≤ n ∨ i = 1) ∧ vi = .int .i64 i ∧ Hid (FO wr g off c s) ∧ Hid (Stab l s) ∧ Hid (SrtTo la s i) ∧ Hid (Below B w wr)) (fun vi _ => n + 1 - (intOf vi).toNat)
  case atStart => exact ⟨1, l, Nat.le_refl _, .inr rfl, rfl, HS0, Stab.refl _, fun p q h1 h2 => by omega, Below.refl _ _⟩
  case round =>
    obtain ⟨i, s, hi1, hin, rfl, HS, HT, HO, HB⟩ := hrel
    by_cases hlt : i < n
    · go_wp2_with fail
      go_loopw [9] (fun vj wr2 => ∃ (j : Nat) (s : List Fl), j ≤ i ∧ vj = .int .i64 j ∧ Hid (FO wr2 g off c s) ∧ Hid (Stab l s) ∧ Hid (SrtBut la s i j) ∧ Hid (Below B w wr2)) (fun vj _ => (intOf vj).toNat)
      case atStart => exact ⟨i, s, Nat.le_refl _, rfl, HS, HT, srt_start HO.out, HB⟩
      case round =>
        clear HS HT HO HB
        obtain ⟨j, s, hj, rfl, HS, HT, HO, HB⟩ := hrel
        cases j with
        | zero =>
          have HO2 : Hid (SrtTo la s (i + 1)) := srt_end HO.out hj (.inl rfl)
          clear HO
          go_wp2_with fail
          go_quiet (fail)
          go_wp2
          go_roundw
          case rel => exact ⟨i + 1, s, by omega, .inl (by omega), by go_num, HS, HT, HO2, below_drewN HB.out _⟩
          case measure => simp [intOf]; omega
        | succ j =>
          have hsl : j + 1 < s.length := by rw [HT.out.1, HN.out]; omega
          have HC4 := HS.out.c4 j hsl
          have HCM : Hid (∀ W, Below wr.heap.size wr W → Calls Try.prog 13 #[.agg #[.int .i64 (s.getD (j + 1) (0, 0)).1, .int .i64 (s.getD (j + 1) (0, 0)).2], .agg #[.int .i64 (s.getD j (0, 0)).1, .int .i64 (s.getD j (0, 0)).2], .pointer (some ⟨p2, 0, none⟩)] W fun e w' => e = .returned (.int .i64 (cmpU (KA la s (j + 1)) (KA la s j))) ∧ Below wr.heap.size wr w' ∧ C4 w' g off (j + 1) j (s.getD (j + 1) (0, 0)) (s.getD j (0, 0))) := fun W b => by
            refine ((HE.out W (HB.out.trans (b.mono (Nat.le_trans (HE.out _ (Below.refl _ _)).s HB.out.size)))).cmp _ _).mono fun e w' he => ?_
            have b2 := b.trans (he.2.mono b.size)
            exact ⟨he.1, b2, (HS.out.below b2 HS.out.lt).c4 j hsl⟩
          have HK := hidE (cmpU_neg (KA la s (j + 1)) (KA la s j))
          have U0 : Below wr.heap.size wr wr := Below.refl _ _
          obtain ⟨J, hJ⟩ : ∃ J, J = j + 1 := ⟨_, rfl⟩
          have HJ : Hid (J = j + 1) := hJ
          rw [← hJ] at HC4 HCM HK hj ⊢
          have m0 : decide (0 < J) = true := decide_eq_true (by omega)
          have m1 : (0 : Int) ≤ J := by omega
          have m2 : (J : Int) < n := by omega
          have m3 : (0 : Int) ≤ j := by omega
          have m4 : (j : Int) < n := by omega
          have m5 : IntKind.i64.wrap ((J : Int) - 1) = (j : Int) := by rw [IntKind.wrap_i64]; omega
          clear hJ
          generalize hd : cmpU (KA la s J) (KA la s j) = d at *
          generalize hx : s.getD J (0, 0) = x at *
          generalize hy : s.getD j (0, 0) = y at *
          obtain ⟨x0, x1⟩ := x
          obtain ⟨y0, y1⟩ := y
          unfold C4 at HC4 HCM
          simp only at HC4 HCM
          have HXX : Hid (s.getD J (0, 0) = (x0, x1)) := hx
          have HYY : Hid (s.getD j (0, 0) = (y0, y1)) := hy
          clear hx hy hd
          obtain ⟨a0, a1, a2, a3⟩ := HC4
          go_wp2_with fail
          go_region_held3 (fun W => W.cell? ⟨g, off + J * 2, none⟩ = some (.int .i64 x0) ∧ W.cell? ⟨g, off + J * 2 + 1, none⟩ = some (.int .i64 x1) ∧ W.cell? ⟨g, off + j * 2, none⟩ = some (.int .i64 y0) ∧ W.cell? ⟨g, off + j * 2 + 1, none⟩ = some (.int .i64 y1)) (go_keep) (first | (go_at_call 13; refine (HCM.out _ (by first | assumption | exact U0.drew)).mono ?_; rintro e w' ⟨rfl, hB, hS⟩))
          have HS' : Hid (FO w' g off c s) := HS.out.below hB HS.out.lt
          have HB' : Hid (Below B w w') := HB.out.trans (hB.mono (Nat.le_trans (HE.out _ (Below.refl _ _)).s HB.out.size))
          clear HS HB HCM U0 a0 a1 a2 a3
          by_cases hd : d < 0
          · have HO' : Hid (SrtBut la (sw s j) i j) := srt_step (HJ.out ▸ HO.out) (by rw [HT.out.1, HN.out]; omega) (by have := HJ.out; omega) (by have := HK.out.1 hd; rw [HJ.out] at this; exact this)
            have HT' : Hid (Stab l (sw s j)) := HT.out.trans (sw_stab la s j hsl (by have := HK.out.1 hd; rw [HJ.out] at this; exact this))
            have z0 := HS'.out.z (off + J * 2)
            have z1 := HS'.out.z (off + J * 2 + 1)
            have z2 := HS'.out.z (off + j * 2)
            have z3 := HS'.out.z (off + j * 2 + 1)
            obtain ⟨a0, a1, a2, a3⟩ := hS
            have ne1 : ¬ j = J := by have := HJ.out; omega
            have ne2 : ¬ J = j := by have := HJ.out; omega
            have ne3 : ¬ j * 2 = J * 2 + 1 := by omega
            have ne4 : ¬ j * 2 + 1 = J * 2 := by omega
            have ne5 : ¬ J * 2 = j * 2 + 1 := by omega
            have ne6 : ¬ J * 2 + 1 = j * 2 := by omega
            have HF0 : FO ((((w'.setCell ⟨g, off + J * 2, none⟩ (.int .i64 y0)).setCell ⟨g, off + J * 2 + 1, none⟩ (.int .i64 y1)).setCell ⟨g, off + j * 2, none⟩ (.int .i64 x0)).setCell ⟨g, off + j * 2 + 1, none⟩ (.int .i64 x1)) g off c (sw s j) := by
              have k := ((HS'.out.set J (by rw [HJ.out]; exact hsl) y0 y1).set j (by rw [List.length_set]; omega) x0 x1)
              have e : (s.set J (y0, y1)).set j (x0, x1) = sw s j := by
                unfold sw
                rw [← HJ.out, HXX.out, HYY.out]
              rw [e] at k
              exact k
            have HF : Hid (FO ((((w'.setCell ⟨g, off + J * 2, none⟩ (.int .i64 y0)).setCell ⟨g, off + J * 2 + 1, none⟩ (.int .i64 y1)).setCell ⟨g, off + j * 2, none⟩ (.int .i64 x0)).setCell ⟨g, off + j * 2 + 1, none⟩ (.int .i64 x1)) g off c (sw s j)) := HF0
            have HBF : Hid (Below B w ((((w'.setCell ⟨g, off + J * 2, none⟩ (.int .i64 y0)).setCell ⟨g, off + J * 2 + 1, none⟩ (.int .i64 y1)).setCell ⟨g, off + j * 2, none⟩ (.int .i64 x0)).setCell ⟨g, off + j * 2 + 1, none⟩ (.int .i64 x1))) := (((HB'.out.setCell (p := ⟨g, off + J * 2, none⟩) hg _).setCell (p := ⟨g, off + J * 2 + 1, none⟩) hg _).setCell (p := ⟨g, off + j * 2, none⟩) hg _).setCell (p := ⟨g, off + j * 2 + 1, none⟩) hg _
            clear HF0 HO HT HK
            go_wp2_with fail
            go_region
            all_goals
              go_wp2
              go_roundw
              case rel => exact ⟨j, sw s j, by have := HJ.out; omega, by first | rfl | go_num, HF.out.drew, HT', HO', HBF.out.drew⟩
              case measure => have := HJ.out; simp [intOf]; omega
          · have HO2 : Hid (SrtTo la s (i + 1)) := srt_end (HJ.out ▸ HO.out) (by have := HJ.out; omega) (.inr (by have := HK.out; rw [HJ.out] at this ⊢; simp only [Nat.add_sub_cancel]; omega))
            clear HO HK
            go_wp2
            go_roundw
            case rel => exact ⟨i + 1, s, by omega, .inl (by omega), by go_num, HS', HT, HO2, HB'⟩
            case measure => simp [intOf]; omega
    · have HO2 : SrtTo la s s.length := by
        have e : s.length = n := HT.out.1.trans HN.out
        rw [e]
        intro a b h1 h2
        exact HO.out a b h1 (by omega)
      go_wp2
      go_end0
      exact ⟨rfl, s, HS.out, HT.out, HO2, HB.out⟩
end Go.Proofs.Ytnfpbkllpkbdiaa
