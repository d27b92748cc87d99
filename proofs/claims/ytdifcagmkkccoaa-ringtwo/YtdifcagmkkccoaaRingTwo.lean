/- Whatever the pieces and the turns, RingTwo answers true: what is put into two rings of one meter comes out of each as it was put in; no condition. -/
import Derived.Test.YtdifcagmkkccoaaRows
import Derived.WalkKit
import Derived.ProofKit
import Derived.OpenShut
import Derived.Below
import Derived.Deep.DeepCutAuto
import Derived.Deep.Matrix
import Derived.Test.YtdifcagmkkccoaaRingH
namespace Go.Proofs.Ytdifcagmkkccoaa.ringTwo
open Go.ChangeShapes Go.WideShapes Go.ChangeAt Go.RowKit
set_option linter.unusedVariables false

theorem own : ownKnob Try.prog.godebug = none := by kernel_rfl
theorem laidOut : laidOutB Try.prog = true := by kernel_rfl
theorem clp_self (n : Nat) : clp (n : Int) n = n := by unfold clp; rw [if_neg (by omega), if_neg (by omega)]; omega
theorem tot2 (X Y : List UInt8) : ((tot [X, Y] : Nat) : Int) = (X.length : Int) + Y.length := by simp [tot]
theorem cell_lt {w : World} {x : Addr} {v : Value} (h : w.cell? x = some v) : x.block < w.heap.size := by
  unfold World.cell? at h
  rcases Nat.lt_or_ge x.block w.heap.size with c | c
  · exact c
  · simp [Array.getElem?_eq_none c] at h
/-- A list of bools that came in. -/
def IsBools (w : World) (a : Option Addr) (len : Nat) : Prop :=
  len ≤ maxLen ∧ ∀ i, i < len → ∃ b off v, a = some ⟨b, off, none⟩ ∧ w.cell? ⟨b, off + i, none⟩ = some (.bool v)
/-- A list of pieces that came in. -/
def IsPieces (w : World) (a : Option Addr) (len : Nat) : Prop :=
  len ≤ maxLen ∧ (0 < len → ∃ b off, a = some ⟨b, off, none⟩ ∧ b < w.heap.size ∧ ∀ i, i < len → ∃ pa pc kp P, w.cell? ⟨b, off + i, none⟩ = some (.slice pa P.length pc) ∧ Src w kp (.slice pa P.length pc) P ∧ (0 < P.length → kp < w.heap.size) ∧ (pa = none → pc = 0))

set_option maxRecDepth 100000 in
set_option maxHeartbeats 8000000 in
theorem walk (a0 : Option Addr) (len0 cap0 : Nat) (a1 : Option Addr) (len1 cap1 : Nat) (w : World) (h0 : IsPieces w a0 len0) (h1 : IsBools w a1 len1) :
    Calls Try.prog 6 #[.slice a0 len0 cap0, .slice a1 len1 cap1] w fun e w' => e = .returned (.bool true) ∧ Below w.heap.size w w' := by
  obtain ⟨l0, n0⟩ := h0
  obtain ⟨l1, n1⟩ := h1
  unfold maxLen at l0 l1
  have hms : mst 1048576 = 1048576 := by decide
  go_enter Try.func6, Try.ntmps6
  go_wp2_with fail
  refine (alive_any _).mono ?_
  rintro e w1 ⟨rfl, B1⟩
  by_cases hlong : 40 < len0
  · have hlo : (40 : Int) < (len0 : Int) := by omega
    clear hlong
    go_wp2
    go_ret
    exact ⟨rfl, B1⟩
  · have hlo : ¬ (40 : Int) < (len0 : Int) := by omega
    go_wp2_with fail
    refine (new_m 1048576 _).mono ?_
    rw [hms]
    rintro e w2 ⟨mb, rfl, hmb, M2, B2⟩
    have C2 := B1.trans (B2.mono B1.size)
    have T0 := many_start (w0 := w) M2 (by omega) (by omega) (by have := B1.size; omega) C2
    clear B1 B2 M2 C2 hmb hms
    go_wp2_with fail
    refine (many_new T0).mono ?_
    rintro e w3 ⟨ra, rfl, hr, T1, B3⟩
    clear T0 B3 hr
    go_wp2_with fail
    refine (many_new T1).mono ?_
    rintro e w4 ⟨rb, rfl, hr, T2, B4⟩
    clear T1 B4 hr
    have T3 := T2.alloc (.cells #[] 5)
    have A3 := Acc.empty w4
    have T4 := T3.alloc (.cells #[] 5)
    have A4 := Acc.empty (w4.alloc (.cells #[] 5))
    have A3' := A3.frame (w' := (w4.alloc (.cells #[] 5)).alloc (.cells #[] 5)) (Below.heap_alloc _ _ _ A3.lt)
    have hs4 : (w4.alloc (.cells #[] 5)).heap.size = w4.heap.size + 1 := by simp
    rw [hs4] at A4 T4
    have hwb := T2.bel.size
    have T5 : Many (fun k => k < w.heap.size ∨ k = w4.heap.size ∨ k = w4.heap.size + 1) w ((w4.alloc (.cells #[] 5)).alloc (.cells #[] 5)) mb [ra, rb] [[], []] 1048576 0 := T4.weak (fun i hi => by
      rcases hi with c | c | c
      · exact .inl (.inl c)
      · exact .inl (.inr c)
      · exact .inr c)
    clear T2 T3 T4 A3 hs4
    go_wp2_with fail
    clear hlo
    go_loopw [8, 9, 26] (fun vx vy vi wr => ∃ (k : Nat) (X Y : List UInt8) (gx gy : Nat), k ≤ len0 ∧ vi = .int .i64 k ∧ Acc wr gx vx X ∧ Acc wr gy vy Y ∧ gx ≠ gy ∧ w.heap.size ≤ gx ∧ w.heap.size ≤ gy ∧ Hid (Many (fun k => k < w.heap.size ∨ k = gx ∨ k = gy) w wr mb [ra, rb] [X, Y] 1048576 0) ∧ X.length ≤ 100 * k ∧ Y.length ≤ 100 * k) (fun _ _ vi _ => len0 - (intOf vi).toNat)
    case atStart => exact ⟨0, [], [], w4.heap.size, w4.heap.size + 1, Nat.zero_le _, rfl, A3', A4, by omega, by omega, by omega, T5, Nat.le_refl _, Nat.le_refl _⟩
    case round =>
      obtain ⟨k, X, Y, gx, gy, hk, rfl, AX, AY, hgg, hgx, hgy, hT, hX, hY⟩ := hrel
      clear A3' A4 T5 hwb
      by_cases hlt : k < len0
      · obtain ⟨b0, o0, rfl, hb0, hc0⟩ := n0 (by omega)
        obtain ⟨pa, pc, kp, P, hcell0, hP0, hkp, hnil⟩ := hc0 k hlt
        have hcell := (hT.out.bel.cell (p := ⟨b0, o0 + k, none⟩) hb0).trans hcell0
        have hP : Src wr kp (.slice pa P.length pc) P := by
          rcases Nat.eq_zero_or_pos P.length with c | c
          · obtain ⟨x, y, e, q1, q2, q3⟩ := hP0
            exact ⟨x, y, e, q1, q2, fun q => by omega⟩
          · exact hP0.frame (hT.out.bel.block kp (hkp c))
        clear hc0 hcell0 hP0 n0
        by_cases hp : 100 < P.length
        · have hpp : (100 : Int) < (P.length : Int) := by omega
          have hB := hT.out.bel
          clear hp
          go_wp2
          go_ret
          exact ⟨rfl, hB⟩
        · have hpp : ¬ (100 : Int) < (P.length : Int) := by omega
          go_upto_region 13 with fail
          clear hcell
          go_cut [43] (fun v wx => (∃ t : Bool, v = .bool t) ∧ wx = wr)
          case first =>
            by_cases h2 : k < len1
            · obtain ⟨b2, off2, v, ha2, hcv⟩ := n1 k h2
              subst ha2
              have hcv' := (hT.out.bel.cell (p := ⟨b2, off2 + k, none⟩) (cell_lt hcv)).trans hcv
              clear hcv
              go_wp2
              go_meet
              exact ⟨⟨_, rfl⟩, rfl⟩
            · go_wp2
              go_meet
              exact ⟨⟨_, rfl⟩, rfl⟩
          case rest =>
            obtain ⟨⟨tk, rfl⟩, rfl⟩ := hcut
            clear n1
            obtain ⟨cx, rfl⟩ := AX.form
            obtain ⟨cy, rfl⟩ := AY.form
            cases tk
            case true =>
              obtain ⟨v4, w4, g4, hrun4, A4, G4, K4⟩ := acc_append AX hP hnil (by omega)
              have hgl := AY.lt
              have hgm := AX.lt
              have hwb := hT.out.bel.size
              have T4 : Hid (Many (fun k => k < w.heap.size ∨ k = g4 ∨ k = gy) w w4 mb [ra, rb] [X, Y] 1048576 0) := by
                refine hT.out.step K4 (fun i hi => ?_) (fun i hi => ?_)
                · subst hi; exact ⟨.inl (.inr (.inl rfl)), hgx⟩
                · rcases hi with hi | hi | hi
                  · exact .inl (.inl hi)
                  · subst hi
                    rcases G4 with c | c
                    · exact .inl (.inr (.inl c))
                    · exact .inr c
                  · exact .inl (.inr (.inr hi))
              have AO4 := AY.frame (K4.block _ hgl (fun c => hgg c.symm))
              have hg4 : w.heap.size ≤ g4 := by rcases G4 with c | c <;> omega
              have hgg4 : g4 ≠ gy := by rcases G4 with c | c <;> omega
              have HP4 : Hid (∃ k', (k' < w.heap.size ∨ k' = g4 ∨ k' = gy) ∧ Src w4 k' (.slice pa P.length pc) P) := by
                rcases Nat.eq_zero_or_pos P.length with c | c
                · obtain ⟨x, y, e, q1, q2, q3⟩ := hP
                  exact ⟨g4, .inr (.inl rfl), x, y, e, q1, q2, fun q => by omega⟩
                · have hk := hkp c
                  exact ⟨kp, .inl hk, hP.frame (K4.block kp (by omega) (by omega))⟩
              have HPUT : Hid (Calls Try.prog 12 #[.pointer (some ⟨ra, 0, none⟩), .slice pa P.length pc] w4 fun e w' => e = .returned (.bool true) ∧ Many (fun k => k < w.heap.size ∨ k = g4 ∨ k = gy) w w' mb [ra, rb] [X ++ P, Y] 1048576 0 ∧ (∀ k, (k < w.heap.size ∨ k = g4 ∨ k = gy) → w'.heap[k]? = w4.heap[k]?)) := by
                obtain ⟨k', hk', hS⟩ := HP4.out
                have hf : (tot [X, Y] : Int) + P.length ≤ 1048576 := by rw [show tot [X, Y] = X.length + Y.length by simp [tot]]; omega
                refine (many_put 0 ra k' X P _ T4.out rfl rfl hS hk').mono ?_
                rintro e w' ⟨rfl, y1, y2, y3⟩
                rw [if_pos hf] at y1
                exact ⟨by rw [decide_eq_true hf], y1, y2⟩
              clear HP4 T4 K4 G4 AY AX hP
              go_wp2_with (at_builtin; refine wpList_append_run rfl _ _ 35 rfl _ _ _ w4 rfl rfl hrun4 ?_)
              refine HPUT.out.mono ?_
              rintro e w5 ⟨rfl, T5, F5⟩
              have AM5 : Acc w5 g4 v4 (X ++ P) := A4.frame (F5 g4 (.inr (.inl rfl)))
              have AO5 := AO4.frame (F5 gy (.inr (.inr rfl)))
              clear HPUT A4 AO4 F5 hrun4
              have hm1 : (X ++ P).length ≤ 100 * (k + 1) := by rw [List.length_append]; omega
              have ho1 : Y.length ≤ 100 * (k + 1) := by omega
              generalize X ++ P = X1 at *
              obtain ⟨c4, rfl⟩ := AM5.form
              have HPK := many_peek 0 ra X1 (X1.length : Int) T5 rfl rfl
              rw [clp_self, List.take_length] at HPK
              have HPK2 : Hid (Calls Try.prog 16 #[.pointer (some ⟨ra, 0, none⟩), .int .i64 (X1.length : Int)] w5 fun e w' => ∃ g6, e = .returned (.slice (some ⟨g6, 0, none⟩) X1.length X1.length) ∧ Src w' g6 (.slice (some ⟨g6, 0, none⟩) X1.length X1.length) X1 ∧ Many (fun k => k < w.heap.size ∨ k = g4 ∨ k = gy) w w' mb [ra, rb] [X1, Y] 1048576 0 ∧ Below w5.heap.size w5 w') := by
                refine HPK.mono ?_
                rintro e w' ⟨g6, rfl, y1, y2, y3, y4⟩
                exact ⟨g6, rfl, src_row y2 rfl (by unfold maxLen; omega), y3.weak (fun i hi => .inl hi), y4⟩
              clear HPK T5
              go_wp2_with fail
              refine HPK2.out.mono ?_
              rintro e w6 ⟨g6, rfl, S6, T6, B6⟩
              have AX6 := AM5.frame (B6.block _ AM5.lt)
              have AY6 := AO5.frame (B6.block _ AO5.lt)
              have HSB : Hid (Calls Try.prog 15 #[.slice (some ⟨g6, 0, none⟩) X1.length X1.length, .slice (some ⟨g4, 0, none⟩) X1.length c4] w6 fun e w' => e = .returned (.bool true) ∧ Below w6.heap.size w6 w') := sameBytes_eq X1 _ _ _ _ w6 S6 AX6.src
              clear HPK2 AM5 AO5 B6 S6
              go_wp2_with fail
              refine HSB.out.mono ?_
              rintro e w7 ⟨rfl, B7⟩
              have T7 : Hid (Many (fun k => k < w.heap.size ∨ k = g4 ∨ k = gy) w w7 mb [ra, rb] [X1, Y] 1048576 0) := T6.below B7
              have AX7 := AX6.frame (B7.block _ AX6.lt)
              have AY7 := AY6.frame (B7.block _ AY6.lt)
              have M7 := T7.out.isM
              rw [tot2] at M7
              clear HSB AX6 AY6 T6 B7
              go_wp2_with fail
              refine (held_q mb _ _ _ _ M7).mono ?_
              rintro e w8 ⟨rfl, rfl⟩
              have hxx : (X1.length : Int) ≤ 10000 := by omega
              have hyy : (Y.length : Int) ≤ 10000 := by omega
              go_wp2
              go_roundw
              case rel => exact ⟨k + 1, X1, Y, g4, gy, by omega, by go_num, AX7, AY7, hgg4, hg4, hgy, T7, hm1, ho1⟩
              case measure => simp [intOf]; omega
            case false =>
              obtain ⟨v4, w4, g4, hrun4, A4, G4, K4⟩ := acc_append AY hP hnil (by omega)
              have hgl := AX.lt
              have hgm := AY.lt
              have hwb := hT.out.bel.size
              have T4 : Hid (Many (fun k => k < w.heap.size ∨ k = gx ∨ k = g4) w w4 mb [ra, rb] [X, Y] 1048576 0) := by
                refine hT.out.step K4 (fun i hi => ?_) (fun i hi => ?_)
                · subst hi; exact ⟨.inl (.inr (.inr rfl)), hgy⟩
                · rcases hi with hi | hi | hi
                  · exact .inl (.inl hi)
                  · exact .inl (.inr (.inl hi))
                  · subst hi
                    rcases G4 with c | c
                    · exact .inl (.inr (.inr c))
                    · exact .inr c
              have AO4 := AX.frame (K4.block _ hgl (fun c => hgg c))
              have hg4 : w.heap.size ≤ g4 := by rcases G4 with c | c <;> omega
              have hgg4 : gx ≠ g4 := by rcases G4 with c | c <;> omega
              have HP4 : Hid (∃ k', (k' < w.heap.size ∨ k' = gx ∨ k' = g4) ∧ Src w4 k' (.slice pa P.length pc) P) := by
                rcases Nat.eq_zero_or_pos P.length with c | c
                · obtain ⟨x, y, e, q1, q2, q3⟩ := hP
                  exact ⟨gx, .inr (.inl rfl), x, y, e, q1, q2, fun q => by omega⟩
                · have hk := hkp c
                  exact ⟨kp, .inl hk, hP.frame (K4.block kp (by omega) (by omega))⟩
              have HPUT : Hid (Calls Try.prog 12 #[.pointer (some ⟨rb, 0, none⟩), .slice pa P.length pc] w4 fun e w' => e = .returned (.bool true) ∧ Many (fun k => k < w.heap.size ∨ k = gx ∨ k = g4) w w' mb [ra, rb] [X, Y ++ P] 1048576 0 ∧ (∀ k, (k < w.heap.size ∨ k = gx ∨ k = g4) → w'.heap[k]? = w4.heap[k]?)) := by
                obtain ⟨k', hk', hS⟩ := HP4.out
                have hf : (tot [X, Y] : Int) + P.length ≤ 1048576 := by rw [show tot [X, Y] = X.length + Y.length by simp [tot]]; omega
                refine (many_put 1 rb k' Y P _ T4.out rfl rfl hS hk').mono ?_
                rintro e w' ⟨rfl, y1, y2, y3⟩
                rw [if_pos hf] at y1
                exact ⟨by rw [decide_eq_true hf], y1, y2⟩
              clear HP4 T4 K4 G4 AX AY hP
              go_wp2_with (at_builtin; refine wpList_append_run rfl _ _ 35 rfl _ _ _ w4 rfl rfl hrun4 ?_)
              refine HPUT.out.mono ?_
              rintro e w5 ⟨rfl, T5, F5⟩
              have AM5 : Acc w5 g4 v4 (Y ++ P) := A4.frame (F5 g4 (.inr (.inr rfl)))
              have AO5 := AO4.frame (F5 gx (.inr (.inl rfl)))
              clear HPUT A4 AO4 F5 hrun4
              have hm1 : (Y ++ P).length ≤ 100 * (k + 1) := by rw [List.length_append]; omega
              have ho1 : X.length ≤ 100 * (k + 1) := by omega
              generalize Y ++ P = Y1 at *
              obtain ⟨c4, rfl⟩ := AM5.form
              have HPK := many_peek 0 ra X (X.length : Int) T5 rfl rfl
              rw [clp_self, List.take_length] at HPK
              have HPK2 : Hid (Calls Try.prog 16 #[.pointer (some ⟨ra, 0, none⟩), .int .i64 (X.length : Int)] w5 fun e w' => ∃ g6, e = .returned (.slice (some ⟨g6, 0, none⟩) X.length X.length) ∧ Src w' g6 (.slice (some ⟨g6, 0, none⟩) X.length X.length) X ∧ Many (fun k => k < w.heap.size ∨ k = gx ∨ k = g4) w w' mb [ra, rb] [X, Y1] 1048576 0 ∧ Below w5.heap.size w5 w') := by
                refine HPK.mono ?_
                rintro e w' ⟨g6, rfl, y1, y2, y3, y4⟩
                exact ⟨g6, rfl, src_row y2 rfl (by unfold maxLen; omega), y3.weak (fun i hi => .inl hi), y4⟩
              clear HPK T5
              go_wp2_with fail
              refine HPK2.out.mono ?_
              rintro e w6 ⟨g6, rfl, S6, T6, B6⟩
              have AX6 := AO5.frame (B6.block _ AO5.lt)
              have AY6 := AM5.frame (B6.block _ AM5.lt)
              have HSB : Hid (Calls Try.prog 15 #[.slice (some ⟨g6, 0, none⟩) X.length X.length, .slice (some ⟨gx, 0, none⟩) X.length cx] w6 fun e w' => e = .returned (.bool true) ∧ Below w6.heap.size w6 w') := sameBytes_eq X _ _ _ _ w6 S6 AX6.src
              clear HPK2 AM5 AO5 B6 S6
              go_wp2_with fail
              refine HSB.out.mono ?_
              rintro e w7 ⟨rfl, B7⟩
              have T7 : Hid (Many (fun k => k < w.heap.size ∨ k = gx ∨ k = g4) w w7 mb [ra, rb] [X, Y1] 1048576 0) := T6.below B7
              have AX7 := AX6.frame (B7.block _ AX6.lt)
              have AY7 := AY6.frame (B7.block _ AY6.lt)
              have M7 := T7.out.isM
              rw [tot2] at M7
              clear HSB AX6 AY6 T6 B7
              go_wp2_with fail
              refine (held_q mb _ _ _ _ M7).mono ?_
              rintro e w8 ⟨rfl, rfl⟩
              have hxx : (X.length : Int) ≤ 10000 := by omega
              have hyy : (Y1.length : Int) ≤ 10000 := by omega
              go_wp2
              go_roundw
              case rel => exact ⟨k + 1, X, Y1, gx, g4, by omega, by go_num, AX7, AY7, hgg4, hgx, hg4, T7, ho1, hm1⟩
              case measure => simp [intOf]; omega
      · clear n0 n1
        have hkn : k = len0 := by omega
        have hx40 : X.length ≤ 4000 := by omega
        have hy40 : Y.length ≤ 4000 := by omega
        obtain ⟨cx, rfl⟩ := AX.form
        obtain ⟨cy, rfl⟩ := AY.form
        have HTK := many_take 1 rb Y (Y.length : Int) hT.out rfl rfl
        rw [clp_self, List.take_length, List.drop_length] at HTK
        have HTK2 : Hid (Calls Try.prog 14 #[.pointer (some ⟨rb, 0, none⟩), .int .i64 (Y.length : Int)] wr fun e w' => ∃ g6 p6, e = .returned (.slice (some ⟨g6, 0, none⟩) Y.length Y.length) ∧ Src w' g6 (.slice (some ⟨g6, 0, none⟩) Y.length Y.length) Y ∧ Many (fun k => k < w.heap.size ∨ k = gx ∨ k = gy) w w' mb [ra, rb] [X, []] 1048576 p6 ∧ Acc w' gx (.slice (some ⟨gx, 0, none⟩) X.length cx) X ∧ Acc w' gy (.slice (some ⟨gy, 0, none⟩) Y.length cy) Y) := by
          refine HTK.mono ?_
          rintro e w' ⟨g6, rfl, y1, y2, y3, y4, y5⟩
          exact ⟨g6, _, rfl, src_row y2 rfl (by unfold maxLen; omega), y3.weak (fun i hi => .inl hi), AX.frame (y4 _ (.inr (.inl rfl))), AY.frame (y4 _ (.inr (.inr rfl)))⟩
        clear HTK hT AX AY hkn
        go_wp2_with fail
        refine HTK2.out.mono ?_
        rintro e w5 ⟨g5, p5, rfl, S5, T5, AX5, AY5⟩
        have HSB : Hid (Calls Try.prog 15 #[.slice (some ⟨g5, 0, none⟩) Y.length Y.length, .slice (some ⟨gy, 0, none⟩) Y.length cy] w5 fun e w' => e = .returned (.bool true) ∧ Below w5.heap.size w5 w') := sameBytes_eq Y _ _ _ _ w5 S5 AY5.src
        clear HTK2 S5 AY5
        go_wp2_with fail
        refine HSB.out.mono ?_
        rintro e w6 ⟨rfl, B6⟩
        have T6 : Hid (Many (fun k => k < w.heap.size ∨ k = gx ∨ k = gy) w w6 mb [ra, rb] [X, []] 1048576 p5) := T5.below B6
        have AX6 := AX5.frame (B6.block _ AX5.lt)
        have M6 : IsM w6 mb 1048576 (X.length : Int) p5 := by
          have q := T6.out.isM
          rw [tot2] at q
          simpa using q
        clear HSB T5 AX5 B6
        go_wp2_with fail
        refine (held_q mb _ _ _ _ M6).mono ?_
        rintro e w7 ⟨rfl, rfl⟩
        go_wp2_with fail
        refine (many_len 0 ra X T6.out rfl rfl).mono ?_
        rintro e w8 ⟨rfl, rfl⟩
        have HTK := many_take 0 ra X (X.length : Int) T6.out rfl rfl
        rw [clp_self, List.take_length, List.drop_length] at HTK
        have HTK2 : Hid (Calls Try.prog 14 #[.pointer (some ⟨ra, 0, none⟩), .int .i64 (X.length : Int)] w8 fun e w' => ∃ g9 p9, e = .returned (.slice (some ⟨g9, 0, none⟩) X.length X.length) ∧ Src w' g9 (.slice (some ⟨g9, 0, none⟩) X.length X.length) X ∧ Many (fun k => k < w.heap.size ∨ k = gx ∨ k = gy) w w' mb [ra, rb] [[], []] 1048576 p9 ∧ Acc w' gx (.slice (some ⟨gx, 0, none⟩) X.length cx) X) := by
          refine HTK.mono ?_
          rintro e w' ⟨g6, rfl, y1, y2, y3, y4, y5⟩
          exact ⟨g6, _, rfl, src_row y2 rfl (by unfold maxLen; omega), y3.weak (fun i hi => .inl hi), AX6.frame (y4 _ (.inr (.inl rfl)))⟩
        clear HTK T6 M6 AX6
        go_wp2_with fail
        refine HTK2.out.mono ?_
        rintro e w9 ⟨g9, p9, rfl, S9, T9, AX9⟩
        have HSB : Hid (Calls Try.prog 15 #[.slice (some ⟨g9, 0, none⟩) X.length X.length, .slice (some ⟨gx, 0, none⟩) X.length cx] w9 fun e w' => e = .returned (.bool true) ∧ Below w9.heap.size w9 w') := sameBytes_eq X _ _ _ _ w9 S9 AX9.src
        clear HTK2 S9 AX9
        go_wp2_with fail
        refine HSB.out.mono ?_
        rintro e w10 ⟨rfl, B10⟩
        have T10 := T9.below B10
        have M10 : IsM w10 mb 1048576 0 p9 := T10.isM
        clear HSB T9 B10
        go_wp2_with fail
        refine (held_q mb _ _ _ _ M10).mono ?_
        rintro e w11 ⟨rfl, rfl⟩
        go_wp2_with fail
        refine (many_len 1 rb [] T10 rfl rfl).mono ?_
        rintro e w12 ⟨rfl, rfl⟩
        have hB := T10.bel
        go_wp2
        go_ret
        exact ⟨rfl, hB⟩

theorem open_bools {H : Type} {enc : TypeId × Value → H} {P : Program} {w : World} {base : Nat} {spare : Nat → Bool} {held : Bool} {t e : TypeId} {fuel : Nat} {a : Option Addr} {len cap : Nat} {x : DataW H × List MemPlace}
    (ht : P.underlying t = some (.slice e)) (he : P.underlying e = some .bool) (hc : P.cellsOf e = 1)
    (h : DataW.trod enc P w base spare held fuel t [.slice a len cap] = some x) : IsBools w a len := by
  rcases DataW.trod_slice ht h with ⟨h0, _⟩ | ⟨a', len', cap', elems, rest, n, _, hcs, _, hb, hl, hm, hlen, hel, _, _⟩
  · simp at h0
    obtain ⟨rfl, rfl, rfl⟩ := h0
    exact ⟨Nat.zero_le _, fun i hi => absurd hi (by omega)⟩
  · simp at hcs
    obtain ⟨rfl, rfl, rfl⟩ := hcs
    have key : ∀ i, i < len → ∃ v, w.cell? (a'.add i) = some (.bool v) := by
      intro i hi
      have k := hel i hi
      rw [hc, Nat.mul_one, List.getElem?_eq_getElem (by omega), Option.bind_eq_some_iff] at k
      obtain ⟨cs', hcs', hy⟩ := k
      obtain ⟨v, rfl, _⟩ := DataW.trod_bool he hy
      exact ⟨v, cell_of_cells?_one hcs'⟩
    refine ⟨Nat.le_trans hl hm, fun i hi => ?_⟩
    obtain ⟨v0, hv0⟩ := key 0 (by omega)
    obtain ⟨v, hv⟩ := key i hi
    obtain ⟨b, off, spot⟩ := a'
    have hspot : spot = none := by simpa [Addr.add] using World.cell?_spot hv0
    subst hspot
    exact ⟨b, off, v, rfl, by rw [← Go.WideShapes.add_plain]; exact hv⟩
/-- Numbers that are bytes. -/
theorem nums_bytes (zs : List Int) (len : Nat) (hl : len ≤ zs.length) (hw : ∀ n ∈ zs, (Lit.int .u8 n).wf = true) : ∃ P : List UInt8, P.length = len ∧ ∀ (j : Nat) (hj : j < P.length), Value.int .u8 (zs.getD j 0) = bv P[j] := by
  have hbl : ((zs.take len).map fun z => z.toNat.toUInt8).length = len := by rw [List.length_map, List.length_take]; omega
  refine ⟨(zs.take len).map fun z => z.toNat.toUInt8, hbl, fun j hj => ?_⟩
  have hj' : j < len := by rw [hbl] at hj; exact hj
  have hg : zs.getD j 0 = zs[j]'(by omega) := by simp [List.getD, List.getElem?_eq_getElem (show j < zs.length by omega)]
  have hb := bounds_u8 (hw _ (List.getElem_mem (show j < zs.length by omega)))
  rw [hg, List.getElem_map, List.getElem_take]
  unfold bv
  generalize zs[j]'(by omega) = z at hb
  have e : (z.toNat.toUInt8.toNat : Int) = z := by
    have : z.toNat.toUInt8.toNat = z.toNat := by simp; omega
    rw [this]; omega
  rw [e]
theorem open_pieces {H : Type} {enc : TypeId × Value → H} {w : World} {base : Nat} {held : Bool} {a : Option Addr} {len cap : Nat} {x : DataW H × List MemPlace}
    (h : ∃ fuel, DataW.trod enc Try.prog w base (fun _ => true) held fuel 31 (Value.slice a len cap).cells.toList = some x) : IsPieces w a len := by
  obtain ⟨fuel, hf⟩ := h
  rcases Go.Deep.open_int_rows Try.underlying31 Try.underlying35 Try.underlying5 (by kernel_rfl) (by kernel_rfl) hf with ⟨hcs, _⟩ | ⟨x, l, c, A, L, C, Z, hcs, _, hl, hm, _, hrow⟩
  · simp [Value.cells] at hcs
    obtain ⟨rfl, rfl, rfl⟩ := hcs
    exact ⟨Nat.zero_le _, fun h => absurd h (Nat.lt_irrefl _)⟩
  · simp [Value.cells] at hcs
    obtain ⟨rfl, rfl, rfl⟩ := hcs
    refine ⟨Nat.le_trans hl hm, fun hp => ?_⟩
    obtain ⟨b, off, spot⟩ := x
    have hspot : spot = none := by simpa [Addr.add] using World.cell?_spot (hrow 0 (by omega)).1
    subst hspot
    refine ⟨b, off, rfl, ?_, fun i hi => ?_⟩
    · have := cell_lt (hrow 0 (by omega)).1
      rwa [addr_add] at this
    · obtain ⟨q1, q2, q3, q4, q5, q6, q7⟩ := hrow i (by omega)
      rw [addr_add] at q1
      obtain ⟨P, hP, hbyte⟩ := nums_bytes (Z i) (L i) (by omega) q5
      rcases Nat.eq_zero_or_pos P.length with hz | hz
      · exact ⟨A i, C i, 0, P, by rw [hP]; exact q1, ⟨A i, C i, rfl, by omega, q3, fun h => by omega⟩, fun h => by omega, q6⟩
      · cases hA : A i with
        | none => have := q6 hA; omega
        | some a' =>
          obtain ⟨r1, r2⟩ := q7 a' hA
          obtain ⟨b', off', spot'⟩ := a'
          have hsp : spot' = none := by simpa [Addr.add] using World.cell?_spot (r2 0 (by omega))
          subst hsp
          refine ⟨some ⟨b', off', none⟩, C i, b', P, by rw [hP, ← hA]; exact q1, ⟨_, _, rfl, by omega, q3, fun _ => ⟨off', rfl, fun j hj => ?_⟩⟩, fun _ => ?_, fun c => by cases c⟩
          · have := r2 j (by omega)
            rw [addr_add, hbyte j hj] at this
            exact this
          · have := cell_lt (r2 0 (by omega))
            rwa [addr_add] at this

set_option maxRecDepth 100000 in
theorem lifted (os : Os) (started : os.Started) (H : Type) (enc : TypeId × Value → H) :
    ReturnsInHanded {} Try.checked os 6 .any (Rows.ringTwoSpec.pre6 enc Try.prog Try.f6 Rows.ringTwoRow.domain false) (Rows.ringTwoSpec.post enc Try.prog Try.f6 false true false false) := by
  refine returnsInHanded_of_change (C := Try.checked) own started (by kernel_rfl) Try.func6
    (ChangeSpec.witness6 (enc := enc) (C := Try.checked) false ⟨#[], #[.slice none 0 0, .slice none 0 0], []⟩ 8 (by kernel_rfl) (by kernel_rfl) (by kernel_rfl) (by kernel_rfl)) ?_
  intro W base args ds gs before hval0 hW hcnd _
  have hval : ∀ (j : Nat) t v, Try.f6.params[j]? = some t → args[j]? = some v → Value.okWide Try.prog W .any base t v := hval0
  have hW' := hW
  obtain ⟨p, q, hA0, hV, rfl, hfz, hnd⟩ := hW
  have hA : DataW.TrodAll enc Try.prog W 0 (fun _ => true) true Try.f6.params.toList args.toList ds p := hA0
  rw [Try.params6] at hA hval
  obtain ⟨v0, vs0, d0, ds0, p0, q0, hargs, rfl, rfl, h0, r0⟩ := trodAll_cons hA
  obtain ⟨v1, vs1, d1, ds1, p1, q1, rfl, rfl, rfl, h1, r1⟩ := trodAll_cons r0
  obtain ⟨rfl, rfl, rfl⟩ := trodAll_nil r1
  obtain rfl : args = #[v0, v1] := by cases args; simp_all
  obtain ⟨rfl, rfl⟩ := trodVars_none hV
  obtain ⟨a0, len0, cap0, rfl⟩ := okWide_slice Try.underlying31 (hval 0 31 v0 rfl rfl)
  obtain ⟨a1, len1, cap1, rfl⟩ := okWide_slice Try.underlying50 (hval 1 50 v1 rfl rfl)
  have k0 := h0
  have k1 := h1
  have lt0 : ∀ x ∈ p0, x.block < W.heap.size := by obtain ⟨m, hm⟩ := k0; exact DataW.trod_lt m _ _ _ hm
  have lt1 : ∀ x ∈ p1, x.block < W.heap.size := by obtain ⟨m, hm⟩ := k1; exact DataW.trod_lt m _ _ _ hm
  have w0 := open_pieces h0
  have w1 : IsBools W a1 len1 := by
    obtain ⟨fuel, hf⟩ := h1
    exact open_bools (cap := cap1) Try.underlying50 Try.underlying4 (by kernel_rfl) hf
  clear hA0 hval0
  refine (walk a0 len0 cap0 a1 len1 cap1 W w0 w1).mono fun e W' ⟨he, bel⟩ => ?_
  subst he
  exact ⟨_, rfl, _, _, _, [], _, [], hW', trodAll_mk1 (shut_bool Try.underlying4 _), (trodAll_cons_mk (Below.trod laidOut (by kernel_rfl) (of_decide_eq_true (by kernel_rfl)) k0 bel lt0) (trodAll_cons_mk (Below.trod laidOut (by kernel_rfl) (of_decide_eq_true (by kernel_rfl)) k1 bel lt1) trodAll_mk0)), rfl, bel.frame _, fun h => by cases h⟩

theorem over : Rows.ringTwoRow.holds Try.pinned (OpenSpec.ofChange Rows.ringTwoSpec) :=
  OpenClaim.holds_of_wide 6 Try.f6 rfl rfl rfl rfl rfl rfl rfl ⟨rfl, rfl, rfl, rfl, rfl⟩ rfl rfl rfl rfl rfl (by kernel_rfl) Try.func6 (by kernel_rfl)
    (of_decide_eq_true (by kernel_rfl)) (by unfold Func.isWrapper; first | (rw [if_pos (by decide +kernel)]; kernel_rfl) | (rw [if_neg (by decide +kernel)]; exact ⟨rfl, rfl⟩))
    (fun os started H enc _ => lifted os started H enc)

end Go.Proofs.Ytdifcagmkkccoaa.ringTwo
namespace Go.Proofs.Ytdifcagmkkccoaa
/-- The statement. -/
theorem ringTwo_holds : Rows.RingTwoSaid := ringTwo.over
#print axioms ringTwo_holds
end Go.Proofs.Ytdifcagmkkccoaa
