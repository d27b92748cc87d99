/- RobinNothing, walked. -/
import Derived.Test.YtejjljhmlgjlhaaRbO
namespace Go.Proofs.Ytejjljhmlgjlhaa
open Go.RowKit
set_option linter.unusedVariables false

/-- Flows in a row of one's own. -/
def OW (B : Nat) (w : World) (v : Value) (l : List Fl) : Prop := w.ownsRow B 47 2 v l.length (rowW l)
theorem OW.empty (B : Nat) (w : World) (hB : B ≤ w.heap.size) : OW B (w.alloc (.cells #[] 47)) (.slice (some ⟨w.heap.size, 0, none⟩) 0 0) [] :=
  ⟨rfl, .inr ⟨w.heap.size, 0, #[], rfl, hB, tblk_new _ _, Nat.le_refl _, by decide, rfl, rfl⟩⟩
theorem OW.move {B : Nat} {w w' : World} {v : Value} {l : List Fl} (h : OW B w v l) (hk : ∀ k, k < w.heap.size → B ≤ k → w'.heap[k]? = w.heap[k]?) : OW B w' v l := by
  obtain ⟨h1, h2⟩ := h
  refine ⟨h1, ?_⟩
  rcases h2 with h2 | ⟨g, c, cur, hv, hB, hg, r⟩
  · exact .inl h2
  · exact .inr ⟨g, c, cur, hv, hB, (hk g (Array.getElem?_eq_some_iff.1 hg).1 hB).trans hg, r⟩
theorem OW.grow {B : Nat} {w w' : World} {v : Value} {l : List Fl} (h : OW B w v l) (b : Below w.heap.size w w') : OW B w' v l := h.move fun k hk _ => b.block k hk
theorem OW.fls {B : Nat} {w : World} {v : Value} {l : List Fl} (h : OW B w v l) : ∃ a c, v = .slice a l.length c ∧ Fls w a c l := by
  have h0 := h
  obtain ⟨h1, ⟨h2, h3⟩ | ⟨g, c, cur, hv, hB, hg, hlc, hm, hs, ht⟩⟩ := h
  · exact ⟨none, 0, by rw [h2, h3], fun _ => rfl, by omega, Nat.zero_le _, fun q => by omega⟩
  · refine ⟨_, c, hv, (fun e => by cases e), hlc, hm, fun hl => ?_⟩
    obtain ⟨g', c', e, _, hF, _⟩ := owns_FO h0 hl
    rw [hv] at e
    injection e with e1 e2 e3
    injection e1 with e1
    injection e1 with e4 e5 e6
    subst e4 e3
    exact ⟨g, 0, rfl, hF.lt, fun j hj => ⟨hF.c0 j hj, hF.c1 j hj⟩⟩
theorem ow_append {B : Nat} {w : World} {v : Value} {l : List Fl} (h : OW B w v l) (hB : B ≤ w.heap.size) (x y : Int) (hl : l.length ≤ 2199023255552) :
    ∃ v' w', (Builtin.append_ #[29, 29] 29 #[v, .slice (some ⟨w.heap.size, 0, none⟩) 1 1]).run Try.prog (w.alloc (.cells #[.int .i64 x, .int .i64 y] 47)) = .ok v' w' ∧ OW B w' v' (l ++ [(x, y)]) ∧ Below B w w' := by
  obtain ⟨i, hi, hz0, hz1, hz2⟩ := info_parts infoW
  have BA : Below w.heap.size w (w.alloc (.cells #[.int .i64 x, .int .i64 y] 47)) := (Below.refl _ _).alloc (Nat.le_refl _) _
  have hA := h.grow BA
  obtain ⟨v', w', hr, q1, q2, q3, q4⟩ := run_append_own_at (P := Try.prog) _ B 29 29 47 i (.agg #[.int .i64 0, .int .i64 0]) 2 16 Try.underlying29 hi hz0 hz1 hz2 rfl (by decide) v l.length (rowW l) hA ⟨w.heap.size, 0, none⟩ 1 1 (rowW [(x, y)]) rfl (new_two w x y 47) (rowW_one _) (by unfold maxLen; omega) (by omega) (Nat.le_trans hB BA.size)
  refine ⟨v', w', hr, ?_, (BA.mono hB).trans ((Below.refl _ _).grown q2 (Nat.le_trans hB BA.size) (fun q hq => (World.ownsRow.lt hA q hq).1))⟩
  unfold OW
  rw [List.length_append, rowW_app]; exact q1
/-- The first 20, none of which wants anything. -/
def nonL (fs : List Fl) (k : Nat) : List Fl := (fs.take (min k 20)).map fun f => (f.1, min f.2 0)
theorem nonL_len (fs : List Fl) (k : Nat) : (nonL fs k).length ≤ 20 := by unfold nonL; rw [List.length_map, List.length_take]; omega
theorem nonL_le (fs : List Fl) (k : Nat) : ∀ f ∈ nonL fs k, f.2 ≤ 0 := by
  intro f hf
  obtain ⟨x, _, rfl⟩ := List.mem_map.1 hf
  show min x.2 0 ≤ 0
  omega
theorem nonL_snoc (fs : List Fl) (k : Nat) (hk : k < fs.length) (h20 : k < 20) : nonL fs (k + 1) = nonL fs k ++ [((fs.getD k (0, 0)).1, min (fs.getD k (0, 0)).2 0)] := by
  unfold nonL
  rw [show min (k + 1) 20 = k + 1 by omega, show min k 20 = k by omega, take_snoc fs k hk, List.map_append]
  rfl
theorem nonL_same (fs : List Fl) (k : Nat) (h20 : ¬ k < 20) : nonL fs (k + 1) = nonL fs k := by
  unfold nonL
  rw [show min (k + 1) 20 = 20 by omega, show min k 20 = 20 by omega]
theorem go_nil {B : Nat} {w : World} {v : Value} (h : GO B w v []) : ∃ a c, v = .slice a 0 c := h.form
set_option maxRecDepth 100000 in
set_option maxHeartbeats 2000000 in
theorem nothing_walk (qn : Int) (fs : List Fl) (a : Option Addr) (c : Nat) (w : World) (hf : Fls w a c fs) :
    Calls Try.prog 6 #[.int .i64 qn, .slice a fs.length c] w fun e w' => e = .returned (.bool true) ∧ Below w.heap.size w w' := by
  have HN := hidE (rbnew_any qn w)
  have hqb := qB_bd qn
  generalize qB qn = q at *
  have HF : Hid (∀ W, Below w.heap.size w W → Fls W a c fs) := fun W b => hf.keep b
  have HAL : Hid (∀ W, Calls Try.prog 9 #[] W fun e w' => e = .returned (.bool true) ∧ Below W.heap.size W w') := alive16_any
  have hmx : fs.length ≤ 9223372036854775807 := by have h1 := hf.2.1; have h2 := hf.2.2.1; unfold maxLen at h2; omega
  obtain ⟨n, hn⟩ : ∃ n, n = fs.length := ⟨_, rfl⟩
  have HNN : Hid (fs.length = n) := hn.symm
  rw [← hn] at hmx ⊢
  clear hn hf
  go_enter Try.func6, Try.ntmps6
  go_wp2_with fail
  refine HN.out.mono ?_
  rintro e w1 ⟨rfl, hR, hs, B1⟩
  clear HN
  go_wp2_with fail
  refine (HAL.out _).mono ?_
  rintro e w2 ⟨rfl, B2⟩
  clear HAL
  have hR2 := hR.below B2 hR.lt
  have HB2 : Hid (Below w.heap.size w w2) := B1.trans (B2.mono B1.size)
  have HS2 : Hid (w.heap.size < w2.heap.size) := by have := B2.size; show _ < _; omega
  have BA : Below w2.heap.size w2 (w2.alloc (.cells #[.int .i64 1, .int .i64 2097152] 47)) := (Below.refl _ _).alloc (Nat.le_refl _) _
  have HRd := hidE (rbround_any [(1, 2097152)] (some ⟨w2.heap.size, 0, none⟩) 1 w.heap.size q 0 9223372036854775807 (w2.alloc (.cells #[.int .i64 1, .int .i64 2097152] 47)) (hR2.below BA hR2.lt) (fls_blk (tblk_new _ _) rfl rfl (by decide)) (by decide) (by omega) (by omega) (by decide) (by decide) (by decide))
  have HB3 : Hid (Below w.heap.size w (w2.alloc (.cells #[.int .i64 1, .int .i64 2097152] 47))) := HB2.out.trans (BA.mono HB2.out.size)
  have HS3 : Hid (w2.heap.size < (w2.alloc (.cells #[.int .i64 1, .int .i64 2097152] 47)).heap.size) := by show _ < _; simp
  clear hR hs B1 B2 hR2 BA
  go_wp2_with fail
  refine HRd.out.mono ?_
  rintro e w3 ⟨W, hW, v3, rfl, G3, R3, X3⟩
  clear HRd
  have hcr := loopQ_cr _ W (0 + q) 9223372036854775807 [] (Nat.le_refl _) (hW.ask (by decide)) (by omega)
  generalize (loopQ W (0 + q) 9223372036854775807 []).1 = cr at *
  generalize (loopQ W (0 + q) 9223372036854775807 []).2.1 = la at *
  have HB4 : Hid (Below w.heap.size w w3) := HB3.out.trans (X3.below (Nat.le_refl _) HB3.out.size)
  have HR3 : Hid (IsR w3 w.heap.size q cr la) := R3
  have HS4 : Hid (w.heap.size < w3.heap.size) := R3.lt
  have O0 : Hid (OW w3.heap.size (w3.alloc (.cells #[] 47)) (.slice (some ⟨w3.heap.size, 0, none⟩) 0 0) (nonL fs 0)) := OW.empty _ _ (Nat.le_refl _)
  clear G3 R3 X3 hW HB3 HS3 HB2 HS2
  go_wp2_with fail
  go_loopw [6, 26] (fun v6 vi wr => ∃ (k : Nat) (a6 : Option Addr) (c6 : Nat), k ≤ n ∧ vi = .int .i64 k ∧ v6 = .slice a6 (nonL fs k).length c6 ∧ Hid (OW w3.heap.size wr (.slice a6 (nonL fs k).length c6) (nonL fs k)) ∧ Hid (Below w3.heap.size w3 wr)) (fun _ vi _ => n - (intOf vi).toNat)
  case atStart => exact ⟨0, _, _, Nat.zero_le _, rfl, rfl, O0, (Below.refl _ _).alloc (Nat.le_refl _) _⟩
  case round =>
    clear O0
    obtain ⟨k, a6, c6, hk, rfl, rfl, HO, HB⟩ := hrel
    by_cases hlt : k < n
    · have hfw := HF.out wr (HB4.out.trans (HB.out.mono HB4.out.size))
      obtain ⟨g, off, rfl, hg, hc⟩ := hfw.2.2.2 (by rw [HNN.out]; omega)
      have c0 := (hc k (by rw [HNN.out]; exact hlt)).1
      have c1 := (hc k (by rw [HNN.out]; exact hlt)).2
      have m1 : (0 : Int) ≤ k := by omega
      have m2 : (k : Int) < n := by omega
      have BA : Below wr.heap.size wr (wr.alloc (.cells #[.int .i64 (fs.getD k (0, 0)).1, .int .i64 (fs.getD k (0, 0)).2] 47)) := (Below.refl _ _).alloc (Nat.le_refl _) _
      by_cases h20 : k < 20
      · obtain ⟨v7, w7, r7, O7, B7⟩ := ow_append (HO.out.grow BA) (Nat.le_trans HB.out.size BA.size) (fs.getD k (0, 0)).1 (min (fs.getD k (0, 0)).2 0) (by have := nonL_len fs k; omega)
        rw [← nonL_snoc fs k (by rw [HNN.out]; exact hlt) h20] at O7
        obtain ⟨a7, c7, rfl, _⟩ := O7.fls
        have HO7 : Hid (OW w3.heap.size w7 (.slice a7 (nonL fs (k + 1)).length c7) (nonL fs (k + 1))) := O7
        have HB7 : Hid (Below w3.heap.size w3 w7) := (HB.out.trans (BA.mono HB.out.size)).trans B7
        rw [show (wr.alloc (.cells #[.int .i64 (fs.getD k (0, 0)).1, .int .i64 (fs.getD k (0, 0)).2] 47)).heap.size = wr.heap.size + 1 by simp] at r7
        obtain ⟨p, hp⟩ : ∃ p, min (fs.getD k (0, 0)).2 0 = p := ⟨_, rfl⟩
        have XM := min_run (fs.getD k (0, 0)).2 0 p hp
        rw [hp] at r7
        have d20 : decide (k < 20) = true := decide_eq_true h20
        clear O7 B7 BA hfw hc HB HO hp
        generalize (nonL fs k).length = m6 at *
        generalize (fs.getD k (0, 0)).1 = x at *
        generalize (fs.getD k (0, 0)).2 = y at *
        go_wp2_with (at_builtin; refine wpList_append_run2 rfl _ _ 29 29 rfl _ _ _ w7 rfl rfl r7 ?_)
        go_roundw
        case rel => exact ⟨k + 1, _, _, by omega, by go_num, rfl, HO7, HB7⟩
        case measure => simp [intOf]; omega
      · have HO7 := hidE (HO.out.grow BA)
        have HB7 := hidE (HB.out.trans (BA.mono HB.out.size))
        have d20 : decide (k < 20) = false := decide_eq_false h20
        rw [← nonL_same fs k h20] at HO7 ⊢
        clear BA hfw hc HB HO
        generalize (fs.getD k (0, 0)).1 = x at *
        generalize (fs.getD k (0, 0)).2 = y at *
        go_wp2
        go_roundw
        case rel => exact ⟨k + 1, _, _, by omega, by go_num, rfl, HO7, HB7⟩
        case measure => simp [intOf]; omega
    · have hBw := HB4.out.trans (HB.out.mono HB4.out.size)
      have hRr := HR3.out.below HB.out HS4.out
      obtain ⟨a6', c6', e6, hfl⟩ := HO.out.fls
      injection e6 with e61 e62 e63
      subst e61 e63
      have HRd := hidE (rbround_any (nonL fs k) a6 c6 w.heap.size q cr la wr hRr hfl (nonL_len fs k) (by omega) (by omega) (by omega) (by omega) (fun f hf => by have := nonL_le fs k f hf; omega))
      have HBw := hidE hBw
      have HNL := hidE (nonL_le fs k)
      clear HO hfl hRr hBw
      generalize nonL fs k = L at *
      generalize L.length = m6 at *
      go_wp2_with fail
      refine HRd.out.mono ?_
      rintro e w8 ⟨W, hW, v8, rfl, G8, R8, X8⟩
      rw [wait_none hW HNL.out, loopQ_nil] at G8 R8
      obtain ⟨a8, c8, rfl⟩ := go_nil G8
      have HB8 : Hid (Below w.heap.size w w8) := HBw.out.trans (X8.below (Nat.le_refl _) HBw.out.size)
      have HC8 := hidE (rbcredit_any w.heap.size q 0 la w8 R8)
      have HRe := hidE (rbround_any [] none 0 w.heap.size q 0 la w8 R8 ⟨fun _ => rfl, Nat.le_refl _, Nat.zero_le _, fun q => absurd q (Nat.lt_irrefl _)⟩ (by decide) (by omega) (by omega) (by decide) (by decide) (fun f hf => by cases hf))
      clear HRd hW G8 R8 X8 HNL
      go_wp2_with fail
      refine HC8.out.mono ?_
      rintro e w9 ⟨rfl, rfl⟩
      go_wp2_with fail
      refine HRe.out.mono ?_
      rintro e w10 ⟨W, hW, v10, rfl, G10, R10, X10⟩
      rw [wait_none hW (fun f hf => by cases hf), loopQ_nil] at G10 R10
      obtain ⟨a10, c10, rfl⟩ := go_nil G10
      have HB10 : Hid (Below w.heap.size w w10) := HB8.out.trans (X10.below (Nat.le_refl _) HB8.out.size)
      have HC10 := hidE (rbcredit_any w.heap.size q 0 la w10 R10)
      clear HRe hW G10 R10 X10 HC8
      go_wp2_with fail
      refine HC10.out.mono ?_
      rintro e w11 ⟨rfl, rfl⟩
      go_wp2
      go_ret
      exact ⟨rfl, HB10.out⟩
end Go.Proofs.Ytejjljhmlgjlhaa
