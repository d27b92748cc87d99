/- A round, walked. -/
import Derived.Test.YtnfpbkllpkbdiaaRbK
namespace Go.Proofs.Ytnfpbkllpkbdiaa
open Go.RowKit
set_option linter.unusedVariables false

theorem min_run (x y z : Int) (h : min x y = z) (W : World) (ts : Array TypeId) (t : TypeId) : (Builtin.min_ ts t #[.int .i64 x, .int .i64 y]).run Try.prog W = .ok (.int .i64 z) W := by
  rw [run_min_int2, ← h]
  congr 2
  split <;> omega
theorem max_run (x y z : Int) (h : max x y = z) (W : World) (ts : Array TypeId) (t : TypeId) : (Builtin.max_ ts t #[.int .i64 x, .int .i64 y]).run Try.prog W = .ok (.int .i64 z) W := by
  rw [run_max_int2, ← h]
  congr 2
  split <;> omega
/-- What a round leaves. -/
def RdR (w : World) (rb : Nat) (q : Int) (r : Int × Int × List Fl) (e : Ending) (w' : World) : Prop := ∃ v, e = .returned v ∧ GO w.heap.size w' v r.2.2 ∧ IsR w' rb q r.1 r.2.1 ∧ Ex rb w w'
/-- The loop's state. -/
structure LS (w : World) (rb : Nat) (q : Int) (R : Int × Int × List Fl) (wr : World) (v5 v6 : Value) (qu gs : List Fl) (cr la : Int) : Prop where
  qq : Que w.heap.size wr v5 qu
  gg : GO w.heap.size wr v6 gs
  rr : IsR wr rb q cr la
  ee : loopQ qu cr la gs = R
  aa : Ask qu
  c0 : 0 ≤ cr
  c1 : cr ≤ 2199023255552
  xx : Ex rb w wr
  ll : qu.length ≤ 20
  gl : (gs.length : Int) ≤ 2199023255552 - cr
theorem Ex.drew {b : Nat} {u v : World} (h : Ex b u v) : Ex b u v.drew := ⟨h.os, h.tape, h.output, h.size, h.block⟩
theorem nxt_len (f : Fl) (t : List Fl) : (nxt f t).length ≤ t.length + 1 := by unfold nxt; split <;> simp
set_option maxRecDepth 100000 in
set_option maxHeartbeats 8000000 in
theorem rbround_any (fs : List Fl) (a : Option Addr) (c rb : Nat) (q cr la : Int) (w : World) (hr : IsR w rb q cr la) (hf : Fls w a c fs) (hl : fs.length ≤ 20) (hq0 : 0 ≤ q) (hq1 : q ≤ 1099511627776) (hc0 : 0 ≤ cr) (hc1 : cr ≤ 1099511627776) (hw : ∀ f ∈ fs, f.2 ≤ 9223372036854775807) :
    Calls Try.prog 7 #[.pointer (some ⟨rb, 0, none⟩), .slice a fs.length c] w fun e w' => ∃ W, WaitP la fs W ∧ RdR w rb q (loopQ W (cr + q) la []) e w' := by
  have HT := hidE (rbturn_any fs a c rb q cr la w hr hf hl)
  have HR : Hid (IsR w rb q cr la) := hr
  have HL : Hid (fs.length ≤ 20) := hl
  obtain ⟨n, hn⟩ : ∃ n, n = fs.length := ⟨_, rfl⟩
  rw [← hn] at HT ⊢
  have HW : Hid (∀ f ∈ fs, f.2 ≤ 9223372036854775807) := hw
  have hrl := hr.lt
  clear hr hf hl hw hn
  go_enter Try.func7, Try.ntmps7
  go_wp2_with fail
  refine HT.out.mono ?_
  rintro e w1 ⟨v5, W, rfl, hW, hQ, B1⟩
  clear HT
  have HWP : Hid (WaitP la fs W) := hW
  have hR1 := HR.out.below B1 hrl
  have r0 := hR1.c0
  have r1 := hR1.c1
  have z1 := hR1.z 1
  have hX1 : Ex rb w w1 := ⟨B1.os, B1.tape, B1.output, B1.size, fun k hk _ => B1.block k hk⟩
  have hA := hW.ask HW.out
  have hWl : W.length ≤ 20 := Nat.le_trans hW.len HL.out
  obtain ⟨a5, c5, rfl, hF5⟩ := hQ
  have hwr : IntKind.i64.wrap (cr + q) = cr + q := by rw [IntKind.wrap_i64]; omega
  rcases Nat.eq_zero_or_pos W.length with h0 | hp
  · have hWe : W = [] := List.eq_nil_of_length_eq_zero h0
    have HWE : Hid (W = []) := hWe
    have HX1 : Hid (Ex rb w w1) := hX1
    have HR1 : Hid (IsR w1 rb q cr la) := hR1
    clear hF5 hA hWl hW hR1 hX1
    rw [h0] at *
    clear h0 hWe
    go_wp2_with fail
    refine wp_loop_rounds 1 ?_
    rw [rounds_succ]
    go_wp2
    go_ret
    exact ⟨W, HWP.out, _, rfl, by rw [HWE.out, loopQ_nil]; exact GO.nil _ _, by rw [HWE.out, loopQ_nil]; exact HR1.out.set1 0, HX1.out.set 1 _⟩
  · have hd : decide (0 < W.length) = true := decide_eq_true hp
    have L0 : Hid (LS w rb q (loopQ W (cr + q) la []) (w1.setCell ⟨rb, 1, none⟩ (.int .i64 (cr + q))).drew (.slice a5 W.length c5) (.slice none 0 0) W [] (cr + q) la) := by
      refine ⟨⟨a5, c5, rfl, fun hh => ?_⟩, GO.nil _ _, hR1.set1 _, rfl, hA, by omega, by omega, (hX1.set 1 _).drew, hWl, by show (0 : Int) ≤ _; omega⟩
      obtain ⟨g, off, e, hg, hF, hc⟩ := hF5 hh
      exact ⟨g, off, e, hg, hF.but (by omega), hc⟩
    obtain ⟨R, hR⟩ : ∃ R, R = loopQ W (cr + q) la [] := ⟨_, rfl⟩
    have HRR : Hid (R = loopQ W (cr + q) la []) := hR
    rw [← hR] at L0
    obtain ⟨m, hN⟩ : ∃ m, m = W.length := ⟨_, rfl⟩
    rw [← hN] at L0 hd hp ⊢
    clear hW hR1 hX1 hA hF5 hR hN hWl
    go_wp2_with fail
    go_region
    go_wp2_with fail
    generalize (w1.setCell ⟨rb, 1, none⟩ (.int .i64 (cr + q))).drew = w2 at *
    clear r0 r1 z1 B1 hwr hd hp
    go_loopg [5, 6] (qsum W) (fun k v5 v6 wr => ∃ (qu gs : List Fl) (cr la : Int) (a6 : Option Addr) (c6 : Nat), qsum qu ≤ k ∧ v6 = .slice a6 gs.length c6 ∧ Hid (LS w rb q R wr v5 (.slice a6 gs.length c6) qu gs cr la))
    case atStart => exact ⟨W, [], cr + q, la, none, 0, Nat.le_refl _, rfl, L0⟩
    case round =>
      clear L0 hc0 hc1 hq0 hq1
      obtain ⟨qu, gs, cr, la, a6, c6, hk, rfl, HS⟩ := hrel
      cases qu with
      | nil =>
        obtain ⟨hq, hg, hr, he, ha, h0, h1, hx, hll, hgl⟩ := HS.out
        obtain ⟨a5, c5, rfl, _⟩ := hq
        have r1 := hr.c1
        have z1 := hr.z 1
        have HX : Hid (RdR w rb q R (.returned (.slice a6 gs.length c6)) (wr.setCell ⟨rb, 1, none⟩ (.int .i64 0))) := by
          rw [← he, loopQ_nil]
          exact ⟨_, rfl, hg.but hrl, hr.set1 0, hx.set 1 _⟩
        clear hg hr he ha h0 h1 hx hll hgl HS
        simp only [List.length_nil]
        go_wp2
        go_ret
        exact ⟨W, HWP.out, by rw [← HRR.out]; exact HX.out⟩
      | cons f t =>
        obtain ⟨x, y⟩ := f
        obtain ⟨hq, hg, hr, he, ha, h0, h1, hx, hll, hgl⟩ := HS.out
        obtain ⟨a5, c5, rfl, hq2⟩ := hq
        obtain ⟨g, off, rfl, hgB, hF, hcm⟩ := hq2 (Nat.succ_pos _)
        have hy := ha (x, y) (List.mem_cons_self ..)
        simp only at hy
        have r1 := hr.c1
        have z1 := hr.z 1
        have z2 := hr.z 2
        have r2 := hr.c2
        have f0 := hF.c0 0 (Nat.succ_pos _)
        have f1 := hF.c1 0 (Nat.succ_pos _)
        rw [Nat.zero_mul, Nat.add_zero] at f0 f1
        have f0' : wr.cell? ⟨g, off, none⟩ = some (.int .i64 x) := f0
        have f1' : wr.cell? ⟨g, off + 1, none⟩ = some (.int .i64 y) := f1
        clear f0 f1
        have hcl := hF.len
        have hcl2 : t.length + 1 ≤ c5 := hcl
        obtain ⟨p, hp⟩ : ∃ p, min y 64 = p := ⟨_, rfl⟩
        have XM := min_run y 64 p hp
        have hp1 : 1 ≤ p := by omega
        have hp2 : p ≤ y := by omega
        have hrw : rb < wr.heap.size := hr.lt
        have ne1 : ¬ rb = wr.heap.size := by omega
        have ne2 : ¬ wr.heap.size = rb := by omega
        have ne3 : ¬ g = rb := by omega
        by_cases hcp : cr < p
        · have HX : Hid (RdR w rb q R (.returned (.slice a6 gs.length c6)) (wr.alloc (.cells #[.int .i64 x, .int .i64 y] 31))) := by
            rw [← he, loopQ_stop hy.1 (by rw [hp]; exact hcp)]
            have BA : Below wr.heap.size wr (wr.alloc (.cells #[.int .i64 x, .int .i64 y] 31)) := (Below.refl _ _).alloc (Nat.le_refl _) _
            exact ⟨_, rfl, hg.grow BA, hr.below BA hrw, ex_below hx rfl (BA.mono hx.size)⟩
          clear hg hr he ha h0 h1 hx hll hgl HS hF hcl
          go_wp2
          go_ret
          exact ⟨W, HWP.out, by rw [← HRR.out]; exact HX.out⟩
        · have hcw : IntKind.i64.wrap (cr - p) = cr - p := by rw [IntKind.wrap_i64]; omega
          have hyw : IntKind.i64.wrap (y - p) = y - p := by rw [IntKind.wrap_i64]; omega
          have hFA := (hF.but (o := 1) (x := .int .i64 (cr - p)) ne3).but (o := 2) (x := .int .i64 x) ne3
          have hgA := (hg.but (o := 1) (x := .int .i64 (cr - p)) hrl).but (o := 2) (x := .int .i64 x) hrl
          have hrA := (hr.set1 (cr - p)).set2 x
          have hxA := (hx.set 1 (.int .i64 (cr - p))).set 2 (.int .i64 x)
          have hsA : ((wr.setCell ⟨rb, 1, none⟩ (.int .i64 (cr - p))).setCell ⟨rb, 2, none⟩ (.int .i64 x)).heap.size = wr.heap.size := by simp [World.setCell]
          have BA : Below ((wr.setCell ⟨rb, 1, none⟩ (.int .i64 (cr - p))).setCell ⟨rb, 2, none⟩ (.int .i64 x)).heap.size ((wr.setCell ⟨rb, 1, none⟩ (.int .i64 (cr - p))).setCell ⟨rb, 2, none⟩ (.int .i64 x)) (((wr.setCell ⟨rb, 1, none⟩ (.int .i64 (cr - p))).setCell ⟨rb, 2, none⟩ (.int .i64 x)).alloc (.cells #[.int .i64 x, .int .i64 y] 31)) := (Below.refl _ _).alloc (Nat.le_refl _) _
          have nb3 : FO (((wr.setCell ⟨rb, 1, none⟩ (.int .i64 (cr - p))).setCell ⟨rb, 2, none⟩ (.int .i64 x)).alloc (.cells #[.int .i64 x, .int .i64 y] 31)) wr.heap.size 0 1 [(x, y)] := ⟨_, by have := tblk_new ((wr.setCell ⟨rb, 1, none⟩ (.int .i64 (cr - p))).setCell ⟨rb, 2, none⟩ (.int .i64 x)) (.cells #[.int .i64 x, .int .i64 y] 31); rw [hsA] at this; exact this, rfl, Nat.le_refl _, fun j hj => by
            have : j = 0 := by simpa using hj
            subst this
            exact ⟨rfl, rfl⟩⟩
          have hF3 := hFA.below BA hFA.lt
          have hg3 := hgA.grow BA
          have hr3 := hrA.below BA hrA.lt
          have hx3 := ex_below hxA rfl (BA.mono hxA.size)
          have hs3 : (((wr.setCell ⟨rb, 1, none⟩ (.int .i64 (cr - p))).setCell ⟨rb, 2, none⟩ (.int .i64 x)).alloc (.cells #[.int .i64 x, .int .i64 y] 31)).heap.size = wr.heap.size + 1 := by simp [World.setCell]
          have hBs : w.heap.size ≤ (((wr.setCell ⟨rb, 1, none⟩ (.int .i64 (cr - p))).setCell ⟨rb, 2, none⟩ (.int .i64 x)).alloc (.cells #[.int .i64 x, .int .i64 y] 31)).heap.size := hx3.size
          obtain ⟨v6', w4, hr4, G4, B4, K4⟩ := grant_append hg3 hBs x p (by omega)
          obtain ⟨a6', c6', rfl⟩ := G4.form
          rw [hs3] at hr4
          have hF4 := K4 _ _ _ _ hF3
          have nb4 := K4 _ _ _ _ nb3
          have n0 : w4.cell? ⟨wr.heap.size, 0, none⟩ = some (.int .i64 x) := nb4.c0 0 (Nat.succ_pos _)
          have n1 : w4.cell? ⟨wr.heap.size, 1, none⟩ = some (.int .i64 y) := nb4.c1 0 (Nat.succ_pos _)
          have HR4 : Hid (IsR w4 rb q (cr - p) x) := hr3.below B4 hrl
          have HX4 : Hid (Ex rb w w4) := ex_below hx3 rfl B4
          have HG4 : Hid (GO w.heap.size w4 (.slice a6' (gs ++ [(x, p)]).length c6') (gs ++ [(x, p)])) := G4
          have HB4 : Hid (w.heap.size ≤ w4.heap.size) := Nat.le_trans hBs B4.size
          have he2 := he
          rw [loopQ_go hy.1 (by rw [hp]; exact hcp)] at he2
          have hnn : nxt (x, y) t = if p < y then t ++ [(x, y - p)] else t := by unfold nxt; simp only [hp]
          have HE : Hid (loopQ (nxt (x, y) t) (cr - p) x (gs ++ [(x, p)]) = R) := by rw [Hid, ← he2]; simp only [hp]
          have HA : Hid (Ask (nxt (x, y) t)) := ha.nxt
          have HM : Hid (qsum (nxt (x, y) t) < gk) := Nat.lt_of_lt_of_le (nxt_less (x, y) t (by simp only; omega)) hk
          have hll2 : t.length + 1 ≤ 20 := hll
          have HLN : Hid ((nxt (x, y) t).length ≤ 20) := Nat.le_trans (nxt_len _ _) hll2
          have HGL : Hid (((gs ++ [(x, p)]).length : Int) ≤ 2199023255552 - (cr - p)) := by rw [Hid, List.length_append]; show ((gs.length + 1 : Nat) : Int) ≤ _; omega
          have HC0 : Hid (0 ≤ cr - p ∧ cr - p ≤ 2199023255552) := ⟨by omega, by omega⟩
          by_cases hpy : p < y
          · rw [if_pos hpy] at hnn
            obtain ⟨v5', w5, hr5, Q5, B5, K5⟩ := que_append hF4 hgB HB4.out hcm x (y - p) (by omega)
            have HL5 : Hid (LS w rb q R w5 v5' (.slice a6' (gs ++ [(x, p)]).length c6') (nxt (x, y) t) (gs ++ [(x, p)]) (cr - p) x) := ⟨by rw [hnn]; exact Q5, K5 _ _ HG4.out, HR4.out.below B5 hrl, HE.out, HA.out, HC0.out.1, HC0.out.2, ex_below HX4.out rfl B5, HLN.out, HGL.out⟩
            have hd2 : decide (p < y) = true := decide_eq_true hpy
            clear hg hr he ha h0 h1 hx hll hgl HS hF hcl BA hsA hFA hgA hrA hxA hF3 nb3 hg3 hr3 hx3 hBs hs3 hF4 nb4 G4 B4 K4 he2 hnn HE HA HLN HGL HC0 HR4 HX4 HG4 Q5 B5 K5 hll2 hk hq2 hy hp
            simp only [List.length_cons]
            generalize t.length = tl at *
            go_wp2_with (at_builtin; first | (refine wpList_append_run2 rfl _ _ 33 33 rfl _ _ _ w4 rfl rfl hr4 ?_; clear hr4) | (refine wpList_append_run2 rfl _ _ 22 22 rfl _ _ _ w5 rfl rfl hr5 ?_; clear hr5))
            all_goals
              go_roundg (qsum (nxt (x, y) t))
              case measure => exact HM.out
              case rel => exact ⟨_, gs ++ [(x, p)], _, _, _, _, Nat.le_refl _, by simp, HL5⟩
          · rw [if_neg hpy] at hnn
            have HL5 : Hid (∀ (a5 : Option Addr) (cc : Nat), (0 < t.length → a5 = some ⟨g, off + 2, none⟩ ∧ cc = c5 - 1) → LS w rb q R w4 (.slice a5 t.length cc) (.slice a6' (gs ++ [(x, p)]).length c6') (nxt (x, y) t) (gs ++ [(x, p)]) (cr - p) x) := fun a5 cc h5 => ⟨by
              rw [hnn]
              refine ⟨a5, cc, rfl, fun hh => ⟨g, off + 2, (h5 hh).1, hgB, ?_, by rw [(h5 hh).2]; omega⟩⟩
              rw [(h5 hh).2]
              have := hF4.drop 1 (by omega)
              simpa using this, HG4.out, HR4.out, HE.out, HA.out, HC0.out.1, HC0.out.2, HX4.out, HLN.out, HGL.out⟩
            have hd2 : decide (p < y) = false := decide_eq_false hpy
            clear hg hr he ha h0 h1 hx hll hgl HS hF hcl BA hsA hFA hgA hrA hxA hF3 nb3 hg3 hr3 hx3 hBs hs3 hF4 nb4 G4 B4 K4 he2 hnn HE HA HLN HGL HC0 HR4 HX4 HG4 hll2 hk hq2 hy hp
            simp only [List.length_cons]
            generalize t.length = tl at *
            go_wp2_with (at_builtin; first | (refine wpList_append_run2 rfl _ _ 33 33 rfl _ _ _ w4 rfl rfl hr4 ?_; clear hr4))
            all_goals
              go_roundg (qsum (nxt (x, y) t))
              case measure => exact HM.out
              case rel => exact ⟨_, gs ++ [(x, p)], _, _, _, _, Nat.le_refl _, by simp, HL5.out _ _ (fun hh => by first | exact ⟨rfl, rfl⟩ | (exfalso; omega))⟩
end Go.Proofs.Ytnfpbkllpkbdiaa
