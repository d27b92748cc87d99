/- Texts that the proof leans on, one behind the other: CnV CnW CnX CnY -/
import Derived.Test.YtemmmdhmkegaaaaGreatDoorCb9
/- Conn: the document's Say. -/
namespace Go.Proofs.YtemmmdhmkegaaaaGreatDoor
open Go.RowKit
set_option linter.unusedVariables false

theorem RowK.away {P : Nat → Prop} {w w' : World} {v : Value} {X : List UInt8} (h : RowK P w v X) (hk : ∀ k, P k → k < w.heap.size → w'.heap[k]? = w.heap[k]?) (hs : w.heap.size ≤ w'.heap.size) : RowK P w' v X := by
  obtain ⟨k, p, s⟩ := h
  rcases Nat.eq_zero_or_pos X.length with z | z
  · obtain ⟨a, c, e, h1, h2, h3⟩ := s
    exact ⟨k, fun q => by omega, a, c, e, h1, h2, fun q => by omega⟩
  · exact ⟨k, fun q => ⟨(p q).1, Nat.lt_of_lt_of_le (p q).2 hs⟩, s.frame (hk k (p z).1 (p z).2)⟩
theorem RowK.mono {P Q : Nat → Prop} {w : World} {v : Value} {X : List UInt8} (h : RowK P w v X) (hq : ∀ k, P k → k < w.heap.size → Q k) : RowK Q w v X := by
  obtain ⟨k, p, s⟩ := h
  exact ⟨k, fun z => ⟨hq k (p z).1 (p z).2, (p z).2⟩, s⟩
set_option maxRecDepth 100000 in
set_option maxHeartbeats 4000000 in
theorem r18say_last (ai : Option Addr) (ci : Nat) (ao : Option Addr) (co : Nat) (li lo : List UInt8) (win : Int) (bz cl wt : Bool) (h q m : Int) (ab : Option Addr) (nb cb : Nat) (w : World) (PP : Nat → Prop) (s2 s3 : Cs) (h2 h3 : Int) (okb : Bool)
    (HSH : Hid (∀ W, Below w.heap.size w W → w.heap.size + 2 ≤ W.heap.size → Calls Tryz.prog 47 #[.agg #[.slice ai li.length ci, .slice ao lo.length co, .int .i64 win, .bool false, .bool cl, .bool wt, .int .i64 h, .int .i64 q, .int .i64 m]] W fun e w' => ∃ xa2 xc2 xb2 xd2 xq2, e = .returned (.agg #[.slice xa2 s2.li.length xc2, .slice xb2 s2.lo.length xd2, .int .i64 s2.win, .bool s2.bz, .bool s2.cl, .bool s2.wt, .int .i64 h2, .int .i64 xq2, .int .i64 m]) ∧ (RowK PP w' (.slice xa2 s2.li.length xc2) s2.li ∧ RowK PP w' (.slice xb2 s2.lo.length xd2) s2.lo) ∧ Below W.heap.size W w'))
    (hPP : ∀ k, PP k → True ∧ k ≠ w.heap.size ∧ k ≠ w.heap.size + 1)
    (HNO : Hid (∀ W xa2 xc2 xb2 xd2 xq2, (RowK PP W (.slice xa2 s2.li.length xc2) s2.li ∧ RowK PP W (.slice xb2 s2.lo.length xd2) s2.lo) → Below w.heap.size w W → w.heap.size + 2 ≤ W.heap.size → Calls Tryz.prog 22 #[.agg #[.slice xa2 s2.li.length xc2, .slice xb2 s2.lo.length xd2, .int .i64 s2.win, .bool s2.bz, .bool s2.cl, .bool s2.wt, .int .i64 h2, .int .i64 xq2, .int .i64 m], .slice ab nb cb] W fun e w' => ∃ xa3 xc3 xb3 xd3 xq3, e = .returned (.tuple #[.agg #[.slice xa3 s3.li.length xc3, .slice xb3 s3.lo.length xd3, .int .i64 s3.win, .bool s3.bz, .bool s3.cl, .bool s3.wt, .int .i64 h3, .int .i64 xq3, .int .i64 m], .bool okb]) ∧ (RowK PP w' (.slice xa3 s3.li.length xc3) s3.li ∧ RowK PP w' (.slice xb3 s3.lo.length xd3) s3.lo) ∧ Below W.heap.size W w')) :
    Calls Tryz.prog 20 #[.agg #[.slice ai li.length ci, .slice ao lo.length co, .int .i64 win, .bool bz, .bool cl, .bool wt, .int .i64 h, .int .i64 q, .int .i64 m], .slice ab nb cb, .bool true] w fun e w' => ∃ xa3 xc3 xb3 xd3 xq3, e = .returned (.tuple #[.agg #[.slice xa3 s3.li.length xc3, .slice xb3 s3.lo.length xd3, .int .i64 s3.win, .bool s3.bz, .bool s3.cl, .bool s3.wt, .int .i64 h3, .int .i64 xq3, .int .i64 m], .bool okb]) ∧ (RowK PP w' (.slice xa3 s3.li.length xc3) s3.li ∧ RowK PP w' (.slice xb3 s3.lo.length xd3) s3.lo) ∧ Below w.heap.size w w' := by
  have HPP := hidC hPP
  clear hPP
  have hs1 : (w.alloc (.cells #[.slice ai li.length ci, .slice ao lo.length co, .int .i64 win, .bool bz, .bool cl, .bool wt, .int .i64 h, .int .i64 q, .int .i64 m] 35)).heap.size = w.heap.size + 1 := by simp
  have hb0 : ((w.alloc (.cells #[.slice ai li.length ci, .slice ao lo.length co, .int .i64 win, .bool bz, .bool cl, .bool wt, .int .i64 h, .int .i64 q, .int .i64 m] 35)).alloc (.cells #[.slice none 0 0, .slice none 0 0, .int .i64 0, .bool false, .bool false, .bool false, .int .i64 0, .int .i64 0, .int .i64 0] 35)).heap[w.heap.size]? = some (.cells #[.slice ai li.length ci, .slice ao lo.length co, .int .i64 win, .bool bz, .bool cl, .bool wt, .int .i64 h, .int .i64 q, .int .i64 m] 35) := (Below.heap_alloc _ _ _ (by simp)).trans (tblk_new _ _)
  have hr0 : ((w.alloc (.cells #[.slice ai li.length ci, .slice ao lo.length co, .int .i64 win, .bool bz, .bool cl, .bool wt, .int .i64 h, .int .i64 q, .int .i64 m] 35)).alloc (.cells #[.slice none 0 0, .slice none 0 0, .int .i64 0, .bool false, .bool false, .bool false, .int .i64 0, .int .i64 0, .int .i64 0] 35)).heap[w.heap.size + 1]? = some (.cells #[.slice none 0 0, .slice none 0 0, .int .i64 0, .bool false, .bool false, .bool false, .int .i64 0, .int .i64 0, .int .i64 0] 35) := by have k := tblk_new (w.alloc (.cells #[.slice ai li.length ci, .slice ao lo.length co, .int .i64 win, .bool bz, .bool cl, .bool wt, .int .i64 h, .int .i64 q, .int .i64 m] 35)) (.cells #[.slice none 0 0, .slice none 0 0, .int .i64 0, .bool false, .bool false, .bool false, .int .i64 0, .int .i64 0, .int .i64 0] 35); rw [hs1] at k; exact k
  have HW0 : Hid (Below w.heap.size w ((w.alloc (.cells #[.slice ai li.length ci, .slice ao lo.length co, .int .i64 win, .bool bz, .bool cl, .bool wt, .int .i64 h, .int .i64 q, .int .i64 m] 35)).alloc (.cells #[.slice none 0 0, .slice none 0 0, .int .i64 0, .bool false, .bool false, .bool false, .int .i64 0, .int .i64 0, .int .i64 0] 35))) := ((Below.refl w.heap.size w).alloc (Nat.le_refl _) _).alloc (by rw [hs1]; omega) _
  have hs0 : ((w.alloc (.cells #[.slice ai li.length ci, .slice ao lo.length co, .int .i64 win, .bool bz, .bool cl, .bool wt, .int .i64 h, .int .i64 q, .int .i64 m] 35)).alloc (.cells #[.slice none 0 0, .slice none 0 0, .int .i64 0, .bool false, .bool false, .bool false, .int .i64 0, .int .i64 0, .int .i64 0] 35)).heap.size = w.heap.size + 2 := by simp
  have HS0 := hidC hs0
  have HB0 := hidC hb0
  have HR0 := hidC hr0
  clear hs1 hs0 hb0 hr0
  go_enter Tryz.func20, Tryz.ntmps20
  go_upto_region 1 with fail
  have hb := HB0.out
  have hr := HR0.out
  have HW := HW0
  have hws := Nat.le_of_eq HS0.out.symm
  clear HB0 HR0 HW0 HS0
  generalize ((w.alloc (.cells #[.slice ai li.length ci, .slice ao lo.length co, .int .i64 win, .bool bz, .bool cl, .bool wt, .int .i64 h, .int .i64 q, .int .i64 m] 35)).alloc (.cells #[.slice none 0 0, .slice none 0 0, .int .i64 0, .bool false, .bool false, .bool false, .int .i64 0, .int .i64 0, .int .i64 0] 35)) = w1 at *
  have a3 := tblk_cell (i := 3) hb rfl
  have az3 := lblk_z (i := 3) hb
  have hb2 := one9_3 hb (.bool false)
  have hr2 : (w1.setCell ⟨w.heap.size, 3, none⟩ (.bool false)).heap[w.heap.size + 1]? = _ := (set_away (i := 3) (v := .bool false) (show ¬ w.heap.size + 1 = w.heap.size by omega)).trans hr
  have HW2 : Hid (Below w.heap.size w (w1.setCell ⟨w.heap.size, 3, none⟩ (.bool false))) := HW.out.setCell (p := ⟨w.heap.size, 3, none⟩) (Nat.le_refl _) _
  have hw2 : (w1.setCell ⟨w.heap.size, 3, none⟩ (.bool false)).heap.size = w1.heap.size := by simp [World.setCell]
  have hws2 : w.heap.size + 2 ≤ (w1.setCell ⟨w.heap.size, 3, none⟩ (.bool false)).heap.size := by rw [hw2]; exact hws
  clear hw2 hws
  go_upto_region 3 with fail
  generalize (w1.setCell ⟨w.heap.size, 3, none⟩ (.bool false)) = w2 at *
  clear a3 az3 hb hr HW
  have hb := hb2
  have hr := hr2
  have HW := HW2
  have hws := hws2
  clear hb2 hr2 HW2 hws2
  obtain ⟨e0, e1, e2, e3, e4, e5, e6, e7, e8⟩ := t9_cells hb
  go_wp2_with fail
  refine (HSH.out _ HW.out hws).mono ?_
  rintro e w3 ⟨xa2, xc2, xb2, xd2, xq2, rfl, RR, B⟩
  have hb := (B.block _ (heap_lt hb)).trans hb
  have hr := (B.block _ (heap_lt hr)).trans hr
  have HW : Hid (Below w.heap.size w w3) := HW.out.trans (B.mono HW.out.size)
  have hws : w.heap.size + 2 ≤ w3.heap.size := Nat.le_trans hws B.size
  clear B
  clear e0 e1 e2 e3 e4 e5 e6 e7 e8
  obtain ⟨a0, a1, a2, a3, a4, a5, a6, a7, a8⟩ := t9_cells hb
  obtain ⟨az0, az1, az2, az3, az4, az5, az6, az7, az8⟩ := t9_z hb
  have hb2 := nine_cells hb (.slice xa2 s2.li.length xc2) (.slice xb2 s2.lo.length xd2) (.int .i64 s2.win) (.bool s2.bz) (.bool s2.cl) (.bool s2.wt) (.int .i64 h2) (.int .i64 xq2) (.int .i64 m)
  have hr2 : (nine w3 w.heap.size (.slice xa2 s2.li.length xc2) (.slice xb2 s2.lo.length xd2) (.int .i64 s2.win) (.bool s2.bz) (.bool s2.cl) (.bool s2.wt) (.int .i64 h2) (.int .i64 xq2) (.int .i64 m)).heap[w.heap.size + 1]? = _ := (nine_away (show w.heap.size + 1 ≠ w.heap.size by omega)).trans hr
  have HW2 := hidC (nine_below (.slice xa2 s2.li.length xc2) (.slice xb2 s2.lo.length xd2) (.int .i64 s2.win) (.bool s2.bz) (.bool s2.cl) (.bool s2.wt) (.int .i64 h2) (.int .i64 xq2) (.int .i64 m) HW.out (Nat.le_refl _))
  have hw2 : (nine w3 w.heap.size (.slice xa2 s2.li.length xc2) (.slice xb2 s2.lo.length xd2) (.int .i64 s2.win) (.bool s2.bz) (.bool s2.cl) (.bool s2.wt) (.int .i64 h2) (.int .i64 xq2) (.int .i64 m)).heap.size = w3.heap.size := by unfold nine; simp [World.setCell]
  unfold nine at hb2 hr2 HW2 hw2
  have hws2 : w.heap.size + 2 ≤ (((((((((w3.setCell ⟨w.heap.size, 0, none⟩ (.slice xa2 s2.li.length xc2)).setCell ⟨w.heap.size, 1, none⟩ (.slice xb2 s2.lo.length xd2)).setCell ⟨w.heap.size, 2, none⟩ (.int .i64 s2.win)).setCell ⟨w.heap.size, 3, none⟩ (.bool s2.bz)).setCell ⟨w.heap.size, 4, none⟩ (.bool s2.cl)).setCell ⟨w.heap.size, 5, none⟩ (.bool s2.wt)).setCell ⟨w.heap.size, 6, none⟩ (.int .i64 h2)).setCell ⟨w.heap.size, 7, none⟩ (.int .i64 xq2)).setCell ⟨w.heap.size, 8, none⟩ (.int .i64 m)).heap.size := by rw [hw2]; exact hws
  clear hw2 hws
  clear hb hr HW
  have hb := hb2
  have hr := hr2
  have HW := HW2
  have hws := hws2
  clear hb2 hr2 HW2 hws2
  have RR : (RowK PP (((((((((w3.setCell ⟨w.heap.size, 0, none⟩ (.slice xa2 s2.li.length xc2)).setCell ⟨w.heap.size, 1, none⟩ (.slice xb2 s2.lo.length xd2)).setCell ⟨w.heap.size, 2, none⟩ (.int .i64 s2.win)).setCell ⟨w.heap.size, 3, none⟩ (.bool s2.bz)).setCell ⟨w.heap.size, 4, none⟩ (.bool s2.cl)).setCell ⟨w.heap.size, 5, none⟩ (.bool s2.wt)).setCell ⟨w.heap.size, 6, none⟩ (.int .i64 h2)).setCell ⟨w.heap.size, 7, none⟩ (.int .i64 xq2)).setCell ⟨w.heap.size, 8, none⟩ (.int .i64 m)) (.slice xa2 s2.li.length xc2) s2.li ∧ RowK PP (((((((((w3.setCell ⟨w.heap.size, 0, none⟩ (.slice xa2 s2.li.length xc2)).setCell ⟨w.heap.size, 1, none⟩ (.slice xb2 s2.lo.length xd2)).setCell ⟨w.heap.size, 2, none⟩ (.int .i64 s2.win)).setCell ⟨w.heap.size, 3, none⟩ (.bool s2.bz)).setCell ⟨w.heap.size, 4, none⟩ (.bool s2.cl)).setCell ⟨w.heap.size, 5, none⟩ (.bool s2.wt)).setCell ⟨w.heap.size, 6, none⟩ (.int .i64 h2)).setCell ⟨w.heap.size, 7, none⟩ (.int .i64 xq2)).setCell ⟨w.heap.size, 8, none⟩ (.int .i64 m)) (.slice xb2 s2.lo.length xd2) s2.lo) := ⟨RR.1.away (fun k p _ => nine_away (HPP.out k p).2.1) (by simp [World.setCell]), RR.2.away (fun k p _ => nine_away (HPP.out k p).2.1) (by simp [World.setCell])⟩
  go_upto_region 4 with fail
  generalize (((((((((w3.setCell ⟨w.heap.size, 0, none⟩ (.slice xa2 s2.li.length xc2)).setCell ⟨w.heap.size, 1, none⟩ (.slice xb2 s2.lo.length xd2)).setCell ⟨w.heap.size, 2, none⟩ (.int .i64 s2.win)).setCell ⟨w.heap.size, 3, none⟩ (.bool s2.bz)).setCell ⟨w.heap.size, 4, none⟩ (.bool s2.cl)).setCell ⟨w.heap.size, 5, none⟩ (.bool s2.wt)).setCell ⟨w.heap.size, 6, none⟩ (.int .i64 h2)).setCell ⟨w.heap.size, 7, none⟩ (.int .i64 xq2)).setCell ⟨w.heap.size, 8, none⟩ (.int .i64 m)) = w5 at *
  clear a0 az0 a1 az1 a2 az2 a3 az3 a4 az4 a5 az5 a6 az6 a7 az7 a8 az8
  obtain ⟨e0, e1, e2, e3, e4, e5, e6, e7, e8⟩ := t9_cells hb
  go_wp2_with fail
  refine (HNO.out _ _ _ _ _ _ RR HW.out hws).mono ?_
  rintro e w6 ⟨xa3, xc3, xb3, xd3, xq3, rfl, R3, B⟩
  have hb := (B.block _ (heap_lt hb)).trans hb
  have hr := (B.block _ (heap_lt hr)).trans hr
  have HW : Hid (Below w.heap.size w w6) := HW.out.trans (B.mono HW.out.size)
  have hws : w.heap.size + 2 ≤ w6.heap.size := Nat.le_trans hws B.size
  clear B
  clear e0 e1 e2 e3 e4 e5 e6 e7 e8
  have HR3 : Hid (RowK PP (nine w6 (w.heap.size + 1) (.slice xa3 s3.li.length xc3) (.slice xb3 s3.lo.length xd3) (.int .i64 s3.win) (.bool s3.bz) (.bool s3.cl) (.bool s3.wt) (.int .i64 h3) (.int .i64 xq3) (.int .i64 m)) (.slice xa3 s3.li.length xc3) s3.li ∧ RowK PP (nine w6 (w.heap.size + 1) (.slice xa3 s3.li.length xc3) (.slice xb3 s3.lo.length xd3) (.int .i64 s3.win) (.bool s3.bz) (.bool s3.cl) (.bool s3.wt) (.int .i64 h3) (.int .i64 xq3) (.int .i64 m)) (.slice xb3 s3.lo.length xd3) s3.lo) := ⟨R3.1.away (fun k p _ => nine_away (HPP.out k p).2.2) (by unfold nine; simp [World.setCell]), R3.2.away (fun k p _ => nine_away (HPP.out k p).2.2) (by unfold nine; simp [World.setCell])⟩
  unfold nine at HR3
  clear RR R3
  obtain ⟨e0, e1, e2, e3, e4, e5, e6, e7, e8⟩ := t9_cells hb
  obtain ⟨c0, c1, c2, c3, c4, c5, c6, c7, c8⟩ := t9_cells hr
  obtain ⟨cz0, cz1, cz2, cz3, cz4, cz5, cz6, cz7, cz8⟩ := t9_z hr
  have HRB := hidC (nine_cells hr (.slice xa3 s3.li.length xc3) (.slice xb3 s3.lo.length xd3) (.int .i64 s3.win) (.bool s3.bz) (.bool s3.cl) (.bool s3.wt) (.int .i64 h3) (.int .i64 xq3) (.int .i64 m))
  have HEB := hidC (nine_below (.slice xa3 s3.li.length xc3) (.slice xb3 s3.lo.length xd3) (.int .i64 s3.win) (.bool s3.bz) (.bool s3.cl) (.bool s3.wt) (.int .i64 h3) (.int .i64 xq3) (.int .i64 m) HW.out (show w.heap.size ≤ (w.heap.size + 1) by first | exact Nat.le_refl _ | exact Nat.le_succ _ | omega))
  have hrb := HRB.out
  obtain ⟨r0, r1, r2, r3, r4, r5, r6, r7, r8⟩ := t9_cells hrb
  unfold nine at r0 r1 r2 r3 r4 r5 r6 r7 r8 HEB
  clear hrb HRB hb hr HW hws HNO
  go_wp2
  refine bodyPost_ret (v := .tuple #[.agg #[.slice xa3 s3.li.length xc3, .slice xb3 s3.lo.length xd3, .int .i64 s3.win, .bool s3.bz, .bool s3.cl, .bool s3.wt, .int .i64 h3, .int .i64 xq3, .int .i64 m], .bool okb]) (by simp [results, Tryz.results20, go_sem, r0, r1, r2, r3, r4, r5, r6, r7, r8]) rfl ?_
  exact ⟨xa3, xc3, xb3, xd3, xq3, rfl, HR3.out, HEB.out⟩
set_option maxRecDepth 100000 in
set_option maxHeartbeats 4000000 in
theorem r18say_more (ai : Option Addr) (ci : Nat) (ao : Option Addr) (co : Nat) (li lo : List UInt8) (win : Int) (bz cl wt : Bool) (h q m : Int) (ab : Option Addr) (nb cb : Nat) (w : World) (PP : Nat → Prop) (s3 : Cs) (h3 : Int) (okb : Bool)
    (RW : Hid (∀ W, Below w.heap.size w W → RowK PP W (.slice ai li.length ci) li ∧ RowK PP W (.slice ao lo.length co) lo))
    (hPP : ∀ k, PP k → True ∧ k ≠ w.heap.size ∧ k ≠ w.heap.size + 1)
    (HNO : Hid (∀ W, RowK PP W (.slice ai li.length ci) li ∧ RowK PP W (.slice ao lo.length co) lo → Below w.heap.size w W → w.heap.size + 2 ≤ W.heap.size → Calls Tryz.prog 22 #[.agg #[.slice ai li.length ci, .slice ao lo.length co, .int .i64 win, .bool false, .bool cl, .bool wt, .int .i64 h, .int .i64 q, .int .i64 m], .slice ab nb cb] W fun e w' => ∃ xa3 xc3 xb3 xd3 xq3, e = .returned (.tuple #[.agg #[.slice xa3 s3.li.length xc3, .slice xb3 s3.lo.length xd3, .int .i64 s3.win, .bool s3.bz, .bool s3.cl, .bool s3.wt, .int .i64 h3, .int .i64 xq3, .int .i64 m], .bool okb]) ∧ (RowK PP w' (.slice xa3 s3.li.length xc3) s3.li ∧ RowK PP w' (.slice xb3 s3.lo.length xd3) s3.lo) ∧ Below W.heap.size W w')) :
    Calls Tryz.prog 20 #[.agg #[.slice ai li.length ci, .slice ao lo.length co, .int .i64 win, .bool bz, .bool cl, .bool wt, .int .i64 h, .int .i64 q, .int .i64 m], .slice ab nb cb, .bool false] w fun e w' => ∃ xa3 xc3 xb3 xd3 xq3, e = .returned (.tuple #[.agg #[.slice xa3 s3.li.length xc3, .slice xb3 s3.lo.length xd3, .int .i64 s3.win, .bool s3.bz, .bool s3.cl, .bool s3.wt, .int .i64 h3, .int .i64 xq3, .int .i64 m], .bool okb]) ∧ (RowK PP w' (.slice xa3 s3.li.length xc3) s3.li ∧ RowK PP w' (.slice xb3 s3.lo.length xd3) s3.lo) ∧ Below w.heap.size w w' := by
  have HPP := hidC hPP
  clear hPP
  have hs1 : (w.alloc (.cells #[.slice ai li.length ci, .slice ao lo.length co, .int .i64 win, .bool bz, .bool cl, .bool wt, .int .i64 h, .int .i64 q, .int .i64 m] 35)).heap.size = w.heap.size + 1 := by simp
  have hb0 : ((w.alloc (.cells #[.slice ai li.length ci, .slice ao lo.length co, .int .i64 win, .bool bz, .bool cl, .bool wt, .int .i64 h, .int .i64 q, .int .i64 m] 35)).alloc (.cells #[.slice none 0 0, .slice none 0 0, .int .i64 0, .bool false, .bool false, .bool false, .int .i64 0, .int .i64 0, .int .i64 0] 35)).heap[w.heap.size]? = some (.cells #[.slice ai li.length ci, .slice ao lo.length co, .int .i64 win, .bool bz, .bool cl, .bool wt, .int .i64 h, .int .i64 q, .int .i64 m] 35) := (Below.heap_alloc _ _ _ (by simp)).trans (tblk_new _ _)
  have hr0 : ((w.alloc (.cells #[.slice ai li.length ci, .slice ao lo.length co, .int .i64 win, .bool bz, .bool cl, .bool wt, .int .i64 h, .int .i64 q, .int .i64 m] 35)).alloc (.cells #[.slice none 0 0, .slice none 0 0, .int .i64 0, .bool false, .bool false, .bool false, .int .i64 0, .int .i64 0, .int .i64 0] 35)).heap[w.heap.size + 1]? = some (.cells #[.slice none 0 0, .slice none 0 0, .int .i64 0, .bool false, .bool false, .bool false, .int .i64 0, .int .i64 0, .int .i64 0] 35) := by have k := tblk_new (w.alloc (.cells #[.slice ai li.length ci, .slice ao lo.length co, .int .i64 win, .bool bz, .bool cl, .bool wt, .int .i64 h, .int .i64 q, .int .i64 m] 35)) (.cells #[.slice none 0 0, .slice none 0 0, .int .i64 0, .bool false, .bool false, .bool false, .int .i64 0, .int .i64 0, .int .i64 0] 35); rw [hs1] at k; exact k
  have HW0 : Hid (Below w.heap.size w ((w.alloc (.cells #[.slice ai li.length ci, .slice ao lo.length co, .int .i64 win, .bool bz, .bool cl, .bool wt, .int .i64 h, .int .i64 q, .int .i64 m] 35)).alloc (.cells #[.slice none 0 0, .slice none 0 0, .int .i64 0, .bool false, .bool false, .bool false, .int .i64 0, .int .i64 0, .int .i64 0] 35))) := ((Below.refl w.heap.size w).alloc (Nat.le_refl _) _).alloc (by rw [hs1]; omega) _
  have hs0 : ((w.alloc (.cells #[.slice ai li.length ci, .slice ao lo.length co, .int .i64 win, .bool bz, .bool cl, .bool wt, .int .i64 h, .int .i64 q, .int .i64 m] 35)).alloc (.cells #[.slice none 0 0, .slice none 0 0, .int .i64 0, .bool false, .bool false, .bool false, .int .i64 0, .int .i64 0, .int .i64 0] 35)).heap.size = w.heap.size + 2 := by simp
  have HS0 := hidC hs0
  have HB0 := hidC hb0
  have HR0 := hidC hr0
  clear hs1 hs0 hb0 hr0
  go_enter Tryz.func20, Tryz.ntmps20
  go_upto_region 1 with fail
  have hb := HB0.out
  have hr := HR0.out
  have HW := HW0
  have hws := Nat.le_of_eq HS0.out.symm
  clear HB0 HR0 HW0 HS0
  generalize ((w.alloc (.cells #[.slice ai li.length ci, .slice ao lo.length co, .int .i64 win, .bool bz, .bool cl, .bool wt, .int .i64 h, .int .i64 q, .int .i64 m] 35)).alloc (.cells #[.slice none 0 0, .slice none 0 0, .int .i64 0, .bool false, .bool false, .bool false, .int .i64 0, .int .i64 0, .int .i64 0] 35)) = w1 at *
  have a3 := tblk_cell (i := 3) hb rfl
  have az3 := lblk_z (i := 3) hb
  have hb2 := one9_3 hb (.bool false)
  have hr2 : (w1.setCell ⟨w.heap.size, 3, none⟩ (.bool false)).heap[w.heap.size + 1]? = _ := (set_away (i := 3) (v := .bool false) (show ¬ w.heap.size + 1 = w.heap.size by omega)).trans hr
  have HW2 : Hid (Below w.heap.size w (w1.setCell ⟨w.heap.size, 3, none⟩ (.bool false))) := HW.out.setCell (p := ⟨w.heap.size, 3, none⟩) (Nat.le_refl _) _
  have hw2 : (w1.setCell ⟨w.heap.size, 3, none⟩ (.bool false)).heap.size = w1.heap.size := by simp [World.setCell]
  have hws2 : w.heap.size + 2 ≤ (w1.setCell ⟨w.heap.size, 3, none⟩ (.bool false)).heap.size := by rw [hw2]; exact hws
  clear hw2 hws
  go_upto_region 4 with fail
  generalize (w1.setCell ⟨w.heap.size, 3, none⟩ (.bool false)) = w2 at *
  clear a3 az3 hb hr HW
  have hb := hb2
  have hr := hr2
  have HW := HW2
  have hws := hws2
  clear hb2 hr2 HW2 hws2
  have RR : RowK PP w2 (.slice ai li.length ci) li ∧ RowK PP w2 (.slice ao lo.length co) lo := RW.out _ HW.out
  obtain ⟨e0, e1, e2, e3, e4, e5, e6, e7, e8⟩ := t9_cells hb
  go_wp2_with fail
  refine (HNO.out _ RR HW.out hws).mono ?_
  rintro e w3 ⟨xa3, xc3, xb3, xd3, xq3, rfl, R3, B⟩
  have hb := (B.block _ (heap_lt hb)).trans hb
  have hr := (B.block _ (heap_lt hr)).trans hr
  have HW : Hid (Below w.heap.size w w3) := HW.out.trans (B.mono HW.out.size)
  have hws : w.heap.size + 2 ≤ w3.heap.size := Nat.le_trans hws B.size
  clear B
  clear e0 e1 e2 e3 e4 e5 e6 e7 e8
  have HR3 : Hid (RowK PP (nine w3 (w.heap.size + 1) (.slice xa3 s3.li.length xc3) (.slice xb3 s3.lo.length xd3) (.int .i64 s3.win) (.bool s3.bz) (.bool s3.cl) (.bool s3.wt) (.int .i64 h3) (.int .i64 xq3) (.int .i64 m)) (.slice xa3 s3.li.length xc3) s3.li ∧ RowK PP (nine w3 (w.heap.size + 1) (.slice xa3 s3.li.length xc3) (.slice xb3 s3.lo.length xd3) (.int .i64 s3.win) (.bool s3.bz) (.bool s3.cl) (.bool s3.wt) (.int .i64 h3) (.int .i64 xq3) (.int .i64 m)) (.slice xb3 s3.lo.length xd3) s3.lo) := ⟨R3.1.away (fun k p _ => nine_away (HPP.out k p).2.2) (by unfold nine; simp [World.setCell]), R3.2.away (fun k p _ => nine_away (HPP.out k p).2.2) (by unfold nine; simp [World.setCell])⟩
  unfold nine at HR3
  clear RR R3
  obtain ⟨e0, e1, e2, e3, e4, e5, e6, e7, e8⟩ := t9_cells hb
  obtain ⟨c0, c1, c2, c3, c4, c5, c6, c7, c8⟩ := t9_cells hr
  obtain ⟨cz0, cz1, cz2, cz3, cz4, cz5, cz6, cz7, cz8⟩ := t9_z hr
  have HRB := hidC (nine_cells hr (.slice xa3 s3.li.length xc3) (.slice xb3 s3.lo.length xd3) (.int .i64 s3.win) (.bool s3.bz) (.bool s3.cl) (.bool s3.wt) (.int .i64 h3) (.int .i64 xq3) (.int .i64 m))
  have HEB := hidC (nine_below (.slice xa3 s3.li.length xc3) (.slice xb3 s3.lo.length xd3) (.int .i64 s3.win) (.bool s3.bz) (.bool s3.cl) (.bool s3.wt) (.int .i64 h3) (.int .i64 xq3) (.int .i64 m) HW.out (show w.heap.size ≤ (w.heap.size + 1) by first | exact Nat.le_refl _ | exact Nat.le_succ _ | omega))
  have hrb := HRB.out
  obtain ⟨r0, r1, r2, r3, r4, r5, r6, r7, r8⟩ := t9_cells hrb
  unfold nine at r0 r1 r2 r3 r4 r5 r6 r7 r8 HEB
  clear hrb HRB hb hr HW hws HNO
  go_wp2
  refine bodyPost_ret (v := .tuple #[.agg #[.slice xa3 s3.li.length xc3, .slice xb3 s3.lo.length xd3, .int .i64 s3.win, .bool s3.bz, .bool s3.cl, .bool s3.wt, .int .i64 h3, .int .i64 xq3, .int .i64 m], .bool okb]) (by simp [results, Tryz.results20, go_sem, r0, r1, r2, r3, r4, r5, r6, r7, r8]) rfl ?_
  exact ⟨xa3, xc3, xb3, xd3, xq3, rfl, HR3.out, HEB.out⟩
end Go.Proofs.YtemmmdhmkegaaaaGreatDoor

/- Conn: the document's Say, told of the connection. -/
namespace Go.Proofs.YtemmmdhmkegaaaaGreatDoor
open Go.RowKit
set_option linter.unusedVariables false

section
variable {P : Nat → Prop} {w : World} {v : Value} {s : Cs} {m : Int}
theorem shutS_len (s : Cs) : (shutS s).li.length ≤ s.li.length ∧ (shutS s).lo = s.lo ∧ (shutS s).win = s.win := by
  unfold shutS
  split
  · exact ⟨Nat.le_refl _, rfl, rfl⟩
  · exact ⟨Nat.zero_le _, rfl, rfl⟩
theorem db_say {ab : Option Addr} {nb cb kb : Nat} {Y : List UInt8} (last : Bool) (h : DB P w v s m) (f : Fit s m) (hP : ∀ k, w.heap.size ≤ k → P k) (hY : Src w kb (.slice ab nb cb) Y) (q2 : 0 < Y.length → kb < w.heap.size) (hl : Y.length ≤ 9223372036854775807) :
    Calls Tryz.prog 20 #[v, .slice ab nb cb, .bool last] w fun e w' => ∃ v', e = .returned (.tuple #[v', .bool (sayS s (s.li.length + s.lo.length) m Y last).2]) ∧ DB P w' v' (sayS s (s.li.length + s.lo.length) m Y last).1 m ∧ Below w.heap.size w w' := by
  obtain ⟨ai, ci, ao, co, q, rfl, r1, r2⟩ := h
  obtain ⟨f1, f2, f3, f4⟩ := f
  -- the rows lie in P, and not in the two new blocks
  obtain ⟨PP, hPP⟩ : ∃ PP : Nat → Prop, PP = fun k => P k ∧ k ≠ w.heap.size ∧ k ≠ w.heap.size + 1 := ⟨_, rfl⟩
  have hpp : ∀ k, P k → k < w.heap.size → PP k := fun k p l => by rw [hPP]; exact ⟨p, by omega, by omega⟩
  have hpb : ∀ k, PP k → P k := fun k p => by rw [hPP] at p; exact p.1
  have hpo : ∀ k, PP k → True ∧ k ≠ w.heap.size ∧ k ≠ w.heap.size + 1 := fun k p => by rw [hPP] at p; exact ⟨trivial, p.2⟩
  have hpn : ∀ W : World, w.heap.size + 2 ≤ W.heap.size → ∀ k, W.heap.size ≤ k → PP k := fun W l k p => by rw [hPP]; exact ⟨hP k (by omega), by omega, by omega⟩
  clear hPP
  obtain ⟨li, lo, win, bz, wt, cl⟩ := s
  simp only at f1 f2 f3 f4 r1 r2
  have R1 := r1.mono hpp
  have R2 := r2.mono hpp
  unfold dagg dv
  have hT : ∀ s2 : Cs, s2.lo = lo → s2.li.length ≤ li.length → li.length + lo.length - li.length + s2.li.length = s2.li.length + s2.lo.length := fun s2 e _ => by rw [e]; omega
  cases last with
  | false =>
    have e : sayS ⟨li, lo, win, bz, wt, cl⟩ (li.length + lo.length) m Y false = noteS ⟨li, lo, win, false, wt, cl⟩ (li.length + lo.length) m Y := by
      unfold sayS say2
      simp only [Bool.false_eq_true, if_false]
      rw [show li.length + lo.length - li.length + li.length = li.length + lo.length by omega]
    simp only [e]
    have f0 : Fit ⟨li, lo, win, false, wt, cl⟩ m := ⟨f1, f2, f3, f4⟩
    refine (r18say_more ai ci ao co li lo win bz cl wt ((li.length + lo.length : Nat) : Int) q m ab nb cb w PP (noteS ⟨li, lo, win, false, wt, cl⟩ (li.length + lo.length) m Y).1 (((noteS ⟨li, lo, win, false, wt, cl⟩ (li.length + lo.length) m Y).1.li.length + (noteS ⟨li, lo, win, false, wt, cl⟩ (li.length + lo.length) m Y).1.lo.length : Nat) : Int) (noteS ⟨li, lo, win, false, wt, cl⟩ (li.length + lo.length) m Y).2 (fun W bW => ⟨R1.keep bW, R2.keep bW⟩) hpo (fun W rr bW lW => ?_)).mono ?_
    · have k := db_note (P := PP) (w := W) (v := dagg ai ci ao co ⟨li, lo, win, false, wt, cl⟩ q m) ⟨ai, ci, ao, co, q, rfl, rr.1, rr.2⟩ f0 (hpn W lW) (hY.keep q2 bW) (fun z => Nat.lt_of_lt_of_le (q2 z) bW.size) hl
      refine k.mono ?_
      rintro e w' ⟨v', rfl, ⟨xa, xc, xb, xd, xq, rfl, r3, r4⟩, B⟩
      exact ⟨xa, xc, xb, xd, xq, rfl, ⟨r3, r4⟩, B⟩
    · rintro e w' ⟨xa, xc, xb, xd, xq, rfl, rr, B⟩
      exact ⟨_, rfl, ⟨xa, xc, xb, xd, xq, rfl, rr.1.mono (fun k p _ => hpb k p), rr.2.mono (fun k p _ => hpb k p)⟩, B⟩
  | true =>
    obtain ⟨s2, hs2⟩ : ∃ s2, s2 = shutS ⟨li, lo, win, false, wt, cl⟩ := ⟨_, rfl⟩
    obtain ⟨g1, g2, g3⟩ := shutS_len ⟨li, lo, win, false, wt, cl⟩
    rw [← hs2] at g1 g2 g3
    simp only at g1 g2 g3
    have e : sayS ⟨li, lo, win, bz, wt, cl⟩ (li.length + lo.length) m Y true = noteS s2 (s2.li.length + s2.lo.length) m Y := by
      unfold sayS say2
      simp only [if_true]
      rw [← hs2, hT s2 g2 g1]
    simp only [e]
    have f0 : Fit ⟨li, lo, win, false, wt, cl⟩ m := ⟨f1, f2, f3, f4⟩
    have f2' : Fit s2 m := ⟨by rw [g2]; omega, f2, by rw [g2]; omega, by rw [g3]; exact f4⟩
    refine (r18say_last ai ci ao co li lo win bz cl wt ((li.length + lo.length : Nat) : Int) q m ab nb cb w PP s2 (noteS s2 (s2.li.length + s2.lo.length) m Y).1 ((s2.li.length + s2.lo.length : Nat) : Int) (((noteS s2 (s2.li.length + s2.lo.length) m Y).1.li.length + (noteS s2 (s2.li.length + s2.lo.length) m Y).1.lo.length : Nat) : Int) (noteS s2 (s2.li.length + s2.lo.length) m Y).2 (fun W bW lW => ?_) hpo (fun W xa xc xb xd xq rr bW lW => ?_)).mono ?_
    · have k := db_shut (P := PP) (w := W) (v := dagg ai ci ao co ⟨li, lo, win, false, wt, cl⟩ q m) ⟨ai, ci, ao, co, q, rfl, R1.keep bW, R2.keep bW⟩ f0
      rw [← hs2] at k
      refine k.mono ?_
      rintro e w' ⟨v', rfl, ⟨xa, xc, xb, xd, xq, rfl, r3, r4⟩, B⟩
      exact ⟨xa, xc, xb, xd, xq, rfl, ⟨r3, r4⟩, B⟩
    · have k := db_note (P := PP) (w := W) (v := dagg xa xc xb xd s2 xq m) ⟨xa, xc, xb, xd, xq, rfl, rr.1, rr.2⟩ f2' (hpn W lW) (hY.keep q2 bW) (fun z => Nat.lt_of_lt_of_le (q2 z) bW.size) hl
      refine k.mono ?_
      rintro e w' ⟨v', rfl, ⟨xa, xc, xb, xd, xq, rfl, r3, r4⟩, B⟩
      exact ⟨xa, xc, xb, xd, xq, rfl, ⟨r3, r4⟩, B⟩
    · rintro e w' ⟨xa, xc, xb, xd, xq, rfl, rr, B⟩
      exact ⟨_, rfl, ⟨xa, xc, xb, xd, xq, rfl, rr.1.mono (fun k p _ => hpb k p), rr.2.mono (fun k p _ => hpb k p)⟩, B⟩
end
end Go.Proofs.YtemmmdhmkegaaaaGreatDoor

/- Conn: the document's Next. -/
namespace Go.Proofs.YtemmmdhmkegaaaaGreatDoor
open Go.RowKit
set_option linter.unusedVariables false

set_option maxRecDepth 100000 in
set_option maxHeartbeats 4000000 in
theorem r18next_bz (ai : Option Addr) (ni ci : Nat) (ao : Option Addr) (no co : Nat) (win : Int) (cl wt : Bool) (h q m : Int) (w : World) :
    Calls Tryz.prog 15 #[.agg #[.slice ai ni ci, .slice ao no co, .int .i64 win, .bool true, .bool cl, .bool wt, .int .i64 h, .int .i64 q, .int .i64 m]] w fun e w' => e = .returned (.tuple #[.agg #[.slice ai ni ci, .slice ao no co, .int .i64 win, .bool true, .bool cl, .bool wt, .int .i64 h, .int .i64 q, .int .i64 m], .agg #[.string ⟨#[]⟩, .string ⟨#[]⟩, .int .i64 0, .slice none 0 0, .slice none 0 0], .int .i64 (-1)]) ∧ Below w.heap.size w w' := by
  have hs1 : (w.alloc (.cells #[.slice ai ni ci, .slice ao no co, .int .i64 win, .bool true, .bool cl, .bool wt, .int .i64 h, .int .i64 q, .int .i64 m] 35)).heap.size = w.heap.size + 1 := by simp
  have hs2 : ((w.alloc (.cells #[.slice ai ni ci, .slice ao no co, .int .i64 win, .bool true, .bool cl, .bool wt, .int .i64 h, .int .i64 q, .int .i64 m] 35)).alloc (.cells #[.slice none 0 0, .slice none 0 0, .int .i64 0, .bool false, .bool false, .bool false, .int .i64 0, .int .i64 0, .int .i64 0] 35)).heap.size = w.heap.size + 2 := by simp
  have hb0 : (((w.alloc (.cells #[.slice ai ni ci, .slice ao no co, .int .i64 win, .bool true, .bool cl, .bool wt, .int .i64 h, .int .i64 q, .int .i64 m] 35)).alloc (.cells #[.slice none 0 0, .slice none 0 0, .int .i64 0, .bool false, .bool false, .bool false, .int .i64 0, .int .i64 0, .int .i64 0] 35)).alloc (.cells #[.string ⟨#[]⟩, .string ⟨#[]⟩, .int .i64 0, .slice none 0 0, .slice none 0 0] 43)).heap[w.heap.size]? = some (.cells #[.slice ai ni ci, .slice ao no co, .int .i64 win, .bool true, .bool cl, .bool wt, .int .i64 h, .int .i64 q, .int .i64 m] 35) := (Below.heap_alloc _ _ _ (by rw [hs2]; omega)).trans ((Below.heap_alloc _ _ _ (by rw [hs1]; omega)).trans (tblk_new _ _))
  have hr0 : (((w.alloc (.cells #[.slice ai ni ci, .slice ao no co, .int .i64 win, .bool true, .bool cl, .bool wt, .int .i64 h, .int .i64 q, .int .i64 m] 35)).alloc (.cells #[.slice none 0 0, .slice none 0 0, .int .i64 0, .bool false, .bool false, .bool false, .int .i64 0, .int .i64 0, .int .i64 0] 35)).alloc (.cells #[.string ⟨#[]⟩, .string ⟨#[]⟩, .int .i64 0, .slice none 0 0, .slice none 0 0] 43)).heap[w.heap.size + 1]? = some (.cells #[.slice none 0 0, .slice none 0 0, .int .i64 0, .bool false, .bool false, .bool false, .int .i64 0, .int .i64 0, .int .i64 0] 35) := by have k := tblk_new (w.alloc (.cells #[.slice ai ni ci, .slice ao no co, .int .i64 win, .bool true, .bool cl, .bool wt, .int .i64 h, .int .i64 q, .int .i64 m] 35)) (.cells #[.slice none 0 0, .slice none 0 0, .int .i64 0, .bool false, .bool false, .bool false, .int .i64 0, .int .i64 0, .int .i64 0] 35); rw [hs1] at k; exact (Below.heap_alloc _ _ _ (by rw [hs2]; omega)).trans k
  have hq0 : (((w.alloc (.cells #[.slice ai ni ci, .slice ao no co, .int .i64 win, .bool true, .bool cl, .bool wt, .int .i64 h, .int .i64 q, .int .i64 m] 35)).alloc (.cells #[.slice none 0 0, .slice none 0 0, .int .i64 0, .bool false, .bool false, .bool false, .int .i64 0, .int .i64 0, .int .i64 0] 35)).alloc (.cells #[.string ⟨#[]⟩, .string ⟨#[]⟩, .int .i64 0, .slice none 0 0, .slice none 0 0] 43)).heap[w.heap.size + 2]? = some (.cells #[.string ⟨#[]⟩, .string ⟨#[]⟩, .int .i64 0, .slice none 0 0, .slice none 0 0] 43) := by have k := tblk_new ((w.alloc (.cells #[.slice ai ni ci, .slice ao no co, .int .i64 win, .bool true, .bool cl, .bool wt, .int .i64 h, .int .i64 q, .int .i64 m] 35)).alloc (.cells #[.slice none 0 0, .slice none 0 0, .int .i64 0, .bool false, .bool false, .bool false, .int .i64 0, .int .i64 0, .int .i64 0] 35)) (.cells #[.string ⟨#[]⟩, .string ⟨#[]⟩, .int .i64 0, .slice none 0 0, .slice none 0 0] 43); rw [hs2] at k; exact k
  have HW0 : Hid (Below w.heap.size w (((w.alloc (.cells #[.slice ai ni ci, .slice ao no co, .int .i64 win, .bool true, .bool cl, .bool wt, .int .i64 h, .int .i64 q, .int .i64 m] 35)).alloc (.cells #[.slice none 0 0, .slice none 0 0, .int .i64 0, .bool false, .bool false, .bool false, .int .i64 0, .int .i64 0, .int .i64 0] 35)).alloc (.cells #[.string ⟨#[]⟩, .string ⟨#[]⟩, .int .i64 0, .slice none 0 0, .slice none 0 0] 43))) := (((Below.refl w.heap.size w).alloc (Nat.le_refl _) _).alloc (by rw [hs1]; omega) _).alloc (by rw [hs2]; omega) _
  have hs0 : (((w.alloc (.cells #[.slice ai ni ci, .slice ao no co, .int .i64 win, .bool true, .bool cl, .bool wt, .int .i64 h, .int .i64 q, .int .i64 m] 35)).alloc (.cells #[.slice none 0 0, .slice none 0 0, .int .i64 0, .bool false, .bool false, .bool false, .int .i64 0, .int .i64 0, .int .i64 0] 35)).alloc (.cells #[.string ⟨#[]⟩, .string ⟨#[]⟩, .int .i64 0, .slice none 0 0, .slice none 0 0] 43)).heap.size = w.heap.size + 3 := by simp
  have HS0 := hidC hs0
  have HB0 := hidC hb0
  have HR0 := hidC hr0
  have HQ0 := hidC hq0
  clear hs1 hs2 hs0 hb0 hr0 hq0
  go_enter Tryz.func15, Tryz.ntmps15
  go_upto_region 1 with fail
  have hb := HB0.out
  have hr := HR0.out
  have hq := HQ0.out
  have HW := HW0
  have hws := Nat.le_of_eq HS0.out.symm
  clear HB0 HR0 HQ0 HW0 HS0
  generalize (((w.alloc (.cells #[.slice ai ni ci, .slice ao no co, .int .i64 win, .bool true, .bool cl, .bool wt, .int .i64 h, .int .i64 q, .int .i64 m] 35)).alloc (.cells #[.slice none 0 0, .slice none 0 0, .int .i64 0, .bool false, .bool false, .bool false, .int .i64 0, .int .i64 0, .int .i64 0] 35)).alloc (.cells #[.string ⟨#[]⟩, .string ⟨#[]⟩, .int .i64 0, .slice none 0 0, .slice none 0 0] 43)) = w1 at *
  have a3 := tblk_cell (i := 3) hb rfl
  have az3 := lblk_z (i := 3) hb
  go_upto_region 2 with fail
  clear a3 az3
  obtain ⟨e0, e1, e2, e3, e4, e5, e6, e7, e8⟩ := t9_cells hb
  obtain ⟨c0, c1, c2, c3, c4, c5, c6, c7, c8⟩ := t9_cells hr
  obtain ⟨cz0, cz1, cz2, cz3, cz4, cz5, cz6, cz7, cz8⟩ := t9_z hr
  have HRB := nine_cells hr (.slice ai ni ci) (.slice ao no co) (.int .i64 win) (.bool true) (.bool cl) (.bool wt) (.int .i64 h) (.int .i64 q) (.int .i64 m)
  have HQB : (nine w1 (w.heap.size + 1) (.slice ai ni ci) (.slice ao no co) (.int .i64 win) (.bool true) (.bool cl) (.bool wt) (.int .i64 h) (.int .i64 q) (.int .i64 m)).heap[w.heap.size + 2]? = _ := (nine_away (show w.heap.size + 2 ≠ w.heap.size + 1 by omega)).trans hq
  have HRC : (five (nine w1 (w.heap.size + 1) (.slice ai ni ci) (.slice ao no co) (.int .i64 win) (.bool true) (.bool cl) (.bool wt) (.int .i64 h) (.int .i64 q) (.int .i64 m)) (w.heap.size + 2) (.string ⟨#[]⟩) (.string ⟨#[]⟩) (.int .i64 0) (.slice none 0 0) (.slice none 0 0)).heap[w.heap.size + 1]? = _ := (five_away (show ¬ w.heap.size + 1 = w.heap.size + 2 by omega)).trans HRB
  have HQC := five_cells HQB (.string ⟨#[]⟩) (.string ⟨#[]⟩) (.int .i64 0) (.slice none 0 0) (.slice none 0 0)
  have HEB := hidC (five_below (.string ⟨#[]⟩) (.string ⟨#[]⟩) (.int .i64 0) (.slice none 0 0) (.slice none 0 0) (nine_below (.slice ai ni ci) (.slice ao no co) (.int .i64 win) (.bool true) (.bool cl) (.bool wt) (.int .i64 h) (.int .i64 q) (.int .i64 m) HW.out (show w.heap.size ≤ (w.heap.size + 1) by omega)) (show w.heap.size ≤ (w.heap.size + 2) by omega))
  unfold nine at HRB HQB HRC HQC HEB
  unfold five at HRC HQC HEB
  have q0 := tblk_cell (i := 0) HQB rfl
  have qz0 := lblk_z (i := 0) HQB
  have q1 := tblk_cell (i := 1) HQB rfl
  have qz1 := lblk_z (i := 1) HQB
  have q2 := tblk_cell (i := 2) HQB rfl
  have qz2 := lblk_z (i := 2) HQB
  have q3 := tblk_cell (i := 3) HQB rfl
  have qz3 := lblk_z (i := 3) HQB
  have q4 := tblk_cell (i := 4) HQB rfl
  have qz4 := lblk_z (i := 4) HQB
  obtain ⟨r0, r1, r2, r3, r4, r5, r6, r7, r8⟩ := t9_cells HRC
  have s0 := tblk_cell (i := 0) HQC rfl
  have s1 := tblk_cell (i := 1) HQC rfl
  have s2 := tblk_cell (i := 2) HQC rfl
  have s3 := tblk_cell (i := 3) HQC rfl
  have s4 := tblk_cell (i := 4) HQC rfl
  clear HRB HQB HRC HQC hb hr hq HW hws 
  go_wp2
  refine bodyPost_ret (v := .tuple #[.agg #[.slice ai ni ci, .slice ao no co, .int .i64 win, .bool true, .bool cl, .bool wt, .int .i64 h, .int .i64 q, .int .i64 m], .agg #[.string ⟨#[]⟩, .string ⟨#[]⟩, .int .i64 0, .slice none 0 0, .slice none 0 0], .int .i64 (-1)]) (by simp [results, Tryz.results15, go_sem, r0, r1, r2, r3, r4, r5, r6, r7, r8, s0, s1, s2, s3, s4]) rfl ?_
  exact ⟨rfl, HEB.out⟩
set_option maxRecDepth 100000 in
set_option maxHeartbeats 4000000 in
theorem r18next_cl (ai : Option Addr) (ni ci : Nat) (ao : Option Addr) (no co : Nat) (win : Int) (wt : Bool) (h q m : Int) (w : World) :
    Calls Tryz.prog 15 #[.agg #[.slice ai ni ci, .slice ao no co, .int .i64 win, .bool false, .bool true, .bool wt, .int .i64 h, .int .i64 q, .int .i64 m]] w fun e w' => e = .returned (.tuple #[.agg #[.slice ai ni ci, .slice ao no co, .int .i64 win, .bool false, .bool true, .bool wt, .int .i64 h, .int .i64 q, .int .i64 m], .agg #[.string ⟨#[]⟩, .string ⟨#[]⟩, .int .i64 0, .slice none 0 0, .slice none 0 0], .int .i64 (-1)]) ∧ Below w.heap.size w w' := by
  have hs1 : (w.alloc (.cells #[.slice ai ni ci, .slice ao no co, .int .i64 win, .bool false, .bool true, .bool wt, .int .i64 h, .int .i64 q, .int .i64 m] 35)).heap.size = w.heap.size + 1 := by simp
  have hs2 : ((w.alloc (.cells #[.slice ai ni ci, .slice ao no co, .int .i64 win, .bool false, .bool true, .bool wt, .int .i64 h, .int .i64 q, .int .i64 m] 35)).alloc (.cells #[.slice none 0 0, .slice none 0 0, .int .i64 0, .bool false, .bool false, .bool false, .int .i64 0, .int .i64 0, .int .i64 0] 35)).heap.size = w.heap.size + 2 := by simp
  have hb0 : (((w.alloc (.cells #[.slice ai ni ci, .slice ao no co, .int .i64 win, .bool false, .bool true, .bool wt, .int .i64 h, .int .i64 q, .int .i64 m] 35)).alloc (.cells #[.slice none 0 0, .slice none 0 0, .int .i64 0, .bool false, .bool false, .bool false, .int .i64 0, .int .i64 0, .int .i64 0] 35)).alloc (.cells #[.string ⟨#[]⟩, .string ⟨#[]⟩, .int .i64 0, .slice none 0 0, .slice none 0 0] 43)).heap[w.heap.size]? = some (.cells #[.slice ai ni ci, .slice ao no co, .int .i64 win, .bool false, .bool true, .bool wt, .int .i64 h, .int .i64 q, .int .i64 m] 35) := (Below.heap_alloc _ _ _ (by rw [hs2]; omega)).trans ((Below.heap_alloc _ _ _ (by rw [hs1]; omega)).trans (tblk_new _ _))
  have hr0 : (((w.alloc (.cells #[.slice ai ni ci, .slice ao no co, .int .i64 win, .bool false, .bool true, .bool wt, .int .i64 h, .int .i64 q, .int .i64 m] 35)).alloc (.cells #[.slice none 0 0, .slice none 0 0, .int .i64 0, .bool false, .bool false, .bool false, .int .i64 0, .int .i64 0, .int .i64 0] 35)).alloc (.cells #[.string ⟨#[]⟩, .string ⟨#[]⟩, .int .i64 0, .slice none 0 0, .slice none 0 0] 43)).heap[w.heap.size + 1]? = some (.cells #[.slice none 0 0, .slice none 0 0, .int .i64 0, .bool false, .bool false, .bool false, .int .i64 0, .int .i64 0, .int .i64 0] 35) := by have k := tblk_new (w.alloc (.cells #[.slice ai ni ci, .slice ao no co, .int .i64 win, .bool false, .bool true, .bool wt, .int .i64 h, .int .i64 q, .int .i64 m] 35)) (.cells #[.slice none 0 0, .slice none 0 0, .int .i64 0, .bool false, .bool false, .bool false, .int .i64 0, .int .i64 0, .int .i64 0] 35); rw [hs1] at k; exact (Below.heap_alloc _ _ _ (by rw [hs2]; omega)).trans k
  have hq0 : (((w.alloc (.cells #[.slice ai ni ci, .slice ao no co, .int .i64 win, .bool false, .bool true, .bool wt, .int .i64 h, .int .i64 q, .int .i64 m] 35)).alloc (.cells #[.slice none 0 0, .slice none 0 0, .int .i64 0, .bool false, .bool false, .bool false, .int .i64 0, .int .i64 0, .int .i64 0] 35)).alloc (.cells #[.string ⟨#[]⟩, .string ⟨#[]⟩, .int .i64 0, .slice none 0 0, .slice none 0 0] 43)).heap[w.heap.size + 2]? = some (.cells #[.string ⟨#[]⟩, .string ⟨#[]⟩, .int .i64 0, .slice none 0 0, .slice none 0 0] 43) := by have k := tblk_new ((w.alloc (.cells #[.slice ai ni ci, .slice ao no co, .int .i64 win, .bool false, .bool true, .bool wt, .int .i64 h, .int .i64 q, .int .i64 m] 35)).alloc (.cells #[.slice none 0 0, .slice none 0 0, .int .i64 0, .bool false, .bool false, .bool false, .int .i64 0, .int .i64 0, .int .i64 0] 35)) (.cells #[.string ⟨#[]⟩, .string ⟨#[]⟩, .int .i64 0, .slice none 0 0, .slice none 0 0] 43); rw [hs2] at k; exact k
  have HW0 : Hid (Below w.heap.size w (((w.alloc (.cells #[.slice ai ni ci, .slice ao no co, .int .i64 win, .bool false, .bool true, .bool wt, .int .i64 h, .int .i64 q, .int .i64 m] 35)).alloc (.cells #[.slice none 0 0, .slice none 0 0, .int .i64 0, .bool false, .bool false, .bool false, .int .i64 0, .int .i64 0, .int .i64 0] 35)).alloc (.cells #[.string ⟨#[]⟩, .string ⟨#[]⟩, .int .i64 0, .slice none 0 0, .slice none 0 0] 43))) := (((Below.refl w.heap.size w).alloc (Nat.le_refl _) _).alloc (by rw [hs1]; omega) _).alloc (by rw [hs2]; omega) _
  have hs0 : (((w.alloc (.cells #[.slice ai ni ci, .slice ao no co, .int .i64 win, .bool false, .bool true, .bool wt, .int .i64 h, .int .i64 q, .int .i64 m] 35)).alloc (.cells #[.slice none 0 0, .slice none 0 0, .int .i64 0, .bool false, .bool false, .bool false, .int .i64 0, .int .i64 0, .int .i64 0] 35)).alloc (.cells #[.string ⟨#[]⟩, .string ⟨#[]⟩, .int .i64 0, .slice none 0 0, .slice none 0 0] 43)).heap.size = w.heap.size + 3 := by simp
  have HS0 := hidC hs0
  have HB0 := hidC hb0
  have HR0 := hidC hr0
  have HQ0 := hidC hq0
  clear hs1 hs2 hs0 hb0 hr0 hq0
  go_enter Tryz.func15, Tryz.ntmps15
  go_upto_region 1 with fail
  have hb := HB0.out
  have hr := HR0.out
  have hq := HQ0.out
  have HW := HW0
  have hws := Nat.le_of_eq HS0.out.symm
  clear HB0 HR0 HQ0 HW0 HS0
  generalize (((w.alloc (.cells #[.slice ai ni ci, .slice ao no co, .int .i64 win, .bool false, .bool true, .bool wt, .int .i64 h, .int .i64 q, .int .i64 m] 35)).alloc (.cells #[.slice none 0 0, .slice none 0 0, .int .i64 0, .bool false, .bool false, .bool false, .int .i64 0, .int .i64 0, .int .i64 0] 35)).alloc (.cells #[.string ⟨#[]⟩, .string ⟨#[]⟩, .int .i64 0, .slice none 0 0, .slice none 0 0] 43)) = w1 at *
  have a3 := tblk_cell (i := 3) hb rfl
  have az3 := lblk_z (i := 3) hb
  have a4 := tblk_cell (i := 4) hb rfl
  have az4 := lblk_z (i := 4) hb
  go_upto_region 2 with fail
  clear a3 az3 a4 az4
  obtain ⟨e0, e1, e2, e3, e4, e5, e6, e7, e8⟩ := t9_cells hb
  obtain ⟨c0, c1, c2, c3, c4, c5, c6, c7, c8⟩ := t9_cells hr
  obtain ⟨cz0, cz1, cz2, cz3, cz4, cz5, cz6, cz7, cz8⟩ := t9_z hr
  have HRB := nine_cells hr (.slice ai ni ci) (.slice ao no co) (.int .i64 win) (.bool false) (.bool true) (.bool wt) (.int .i64 h) (.int .i64 q) (.int .i64 m)
  have HQB : (nine w1 (w.heap.size + 1) (.slice ai ni ci) (.slice ao no co) (.int .i64 win) (.bool false) (.bool true) (.bool wt) (.int .i64 h) (.int .i64 q) (.int .i64 m)).heap[w.heap.size + 2]? = _ := (nine_away (show w.heap.size + 2 ≠ w.heap.size + 1 by omega)).trans hq
  have HRC : (five (nine w1 (w.heap.size + 1) (.slice ai ni ci) (.slice ao no co) (.int .i64 win) (.bool false) (.bool true) (.bool wt) (.int .i64 h) (.int .i64 q) (.int .i64 m)) (w.heap.size + 2) (.string ⟨#[]⟩) (.string ⟨#[]⟩) (.int .i64 0) (.slice none 0 0) (.slice none 0 0)).heap[w.heap.size + 1]? = _ := (five_away (show ¬ w.heap.size + 1 = w.heap.size + 2 by omega)).trans HRB
  have HQC := five_cells HQB (.string ⟨#[]⟩) (.string ⟨#[]⟩) (.int .i64 0) (.slice none 0 0) (.slice none 0 0)
  have HEB := hidC (five_below (.string ⟨#[]⟩) (.string ⟨#[]⟩) (.int .i64 0) (.slice none 0 0) (.slice none 0 0) (nine_below (.slice ai ni ci) (.slice ao no co) (.int .i64 win) (.bool false) (.bool true) (.bool wt) (.int .i64 h) (.int .i64 q) (.int .i64 m) HW.out (show w.heap.size ≤ (w.heap.size + 1) by omega)) (show w.heap.size ≤ (w.heap.size + 2) by omega))
  unfold nine at HRB HQB HRC HQC HEB
  unfold five at HRC HQC HEB
  have q0 := tblk_cell (i := 0) HQB rfl
  have qz0 := lblk_z (i := 0) HQB
  have q1 := tblk_cell (i := 1) HQB rfl
  have qz1 := lblk_z (i := 1) HQB
  have q2 := tblk_cell (i := 2) HQB rfl
  have qz2 := lblk_z (i := 2) HQB
  have q3 := tblk_cell (i := 3) HQB rfl
  have qz3 := lblk_z (i := 3) HQB
  have q4 := tblk_cell (i := 4) HQB rfl
  have qz4 := lblk_z (i := 4) HQB
  obtain ⟨r0, r1, r2, r3, r4, r5, r6, r7, r8⟩ := t9_cells HRC
  have s0 := tblk_cell (i := 0) HQC rfl
  have s1 := tblk_cell (i := 1) HQC rfl
  have s2 := tblk_cell (i := 2) HQC rfl
  have s3 := tblk_cell (i := 3) HQC rfl
  have s4 := tblk_cell (i := 4) HQC rfl
  clear HRB HQB HRC HQC hb hr hq HW hws 
  go_wp2
  refine bodyPost_ret (v := .tuple #[.agg #[.slice ai ni ci, .slice ao no co, .int .i64 win, .bool false, .bool true, .bool wt, .int .i64 h, .int .i64 q, .int .i64 m], .agg #[.string ⟨#[]⟩, .string ⟨#[]⟩, .int .i64 0, .slice none 0 0, .slice none 0 0], .int .i64 (-1)]) (by simp [results, Tryz.results15, go_sem, r0, r1, r2, r3, r4, r5, r6, r7, r8, s0, s1, s2, s3, s4]) rfl ?_
  exact ⟨rfl, HEB.out⟩
set_option maxRecDepth 100000 in
set_option maxHeartbeats 4000000 in
theorem r18next_no (ai : Option Addr) (ni ci : Nat) (ao : Option Addr) (no co : Nat) (win : Int) (wt : Bool) (h q m : Int) (w : World)
    (hRQ : ∀ W, Below w.heap.size w W → Calls Tryz.prog 46 #[.slice ai ni ci] W fun e w' => ∃ fa ba fc bc, e = .returned (.tuple #[.agg #[.string ⟨#[]⟩, .string ⟨#[]⟩, .int .i64 0, .slice fa 0 fc, .slice ba 0 bc], .int .i64 0, .int .i64 0]) ∧ OwnF W.heap.size w' (.slice fa 0 fc) [] ∧ Own W.heap.size w' (.slice ba 0 bc) [] ∧ Below W.heap.size W w') :
    Calls Tryz.prog 15 #[.agg #[.slice ai ni ci, .slice ao no co, .int .i64 win, .bool false, .bool false, .bool wt, .int .i64 h, .int .i64 q, .int .i64 m]] w fun e w' => e = .returned (.tuple #[.agg #[.slice ai ni ci, .slice ao no co, .int .i64 win, .bool false, .bool false, .bool wt, .int .i64 h, .int .i64 q, .int .i64 m], .agg #[.string ⟨#[]⟩, .string ⟨#[]⟩, .int .i64 0, .slice none 0 0, .slice none 0 0], .int .i64 (-1)]) ∧ Below w.heap.size w w' := by
  have hs1 : (w.alloc (.cells #[.slice ai ni ci, .slice ao no co, .int .i64 win, .bool false, .bool false, .bool wt, .int .i64 h, .int .i64 q, .int .i64 m] 35)).heap.size = w.heap.size + 1 := by simp
  have hs2 : ((w.alloc (.cells #[.slice ai ni ci, .slice ao no co, .int .i64 win, .bool false, .bool false, .bool wt, .int .i64 h, .int .i64 q, .int .i64 m] 35)).alloc (.cells #[.slice none 0 0, .slice none 0 0, .int .i64 0, .bool false, .bool false, .bool false, .int .i64 0, .int .i64 0, .int .i64 0] 35)).heap.size = w.heap.size + 2 := by simp
  have hb0 : (((w.alloc (.cells #[.slice ai ni ci, .slice ao no co, .int .i64 win, .bool false, .bool false, .bool wt, .int .i64 h, .int .i64 q, .int .i64 m] 35)).alloc (.cells #[.slice none 0 0, .slice none 0 0, .int .i64 0, .bool false, .bool false, .bool false, .int .i64 0, .int .i64 0, .int .i64 0] 35)).alloc (.cells #[.string ⟨#[]⟩, .string ⟨#[]⟩, .int .i64 0, .slice none 0 0, .slice none 0 0] 43)).heap[w.heap.size]? = some (.cells #[.slice ai ni ci, .slice ao no co, .int .i64 win, .bool false, .bool false, .bool wt, .int .i64 h, .int .i64 q, .int .i64 m] 35) := (Below.heap_alloc _ _ _ (by rw [hs2]; omega)).trans ((Below.heap_alloc _ _ _ (by rw [hs1]; omega)).trans (tblk_new _ _))
  have hr0 : (((w.alloc (.cells #[.slice ai ni ci, .slice ao no co, .int .i64 win, .bool false, .bool false, .bool wt, .int .i64 h, .int .i64 q, .int .i64 m] 35)).alloc (.cells #[.slice none 0 0, .slice none 0 0, .int .i64 0, .bool false, .bool false, .bool false, .int .i64 0, .int .i64 0, .int .i64 0] 35)).alloc (.cells #[.string ⟨#[]⟩, .string ⟨#[]⟩, .int .i64 0, .slice none 0 0, .slice none 0 0] 43)).heap[w.heap.size + 1]? = some (.cells #[.slice none 0 0, .slice none 0 0, .int .i64 0, .bool false, .bool false, .bool false, .int .i64 0, .int .i64 0, .int .i64 0] 35) := by have k := tblk_new (w.alloc (.cells #[.slice ai ni ci, .slice ao no co, .int .i64 win, .bool false, .bool false, .bool wt, .int .i64 h, .int .i64 q, .int .i64 m] 35)) (.cells #[.slice none 0 0, .slice none 0 0, .int .i64 0, .bool false, .bool false, .bool false, .int .i64 0, .int .i64 0, .int .i64 0] 35); rw [hs1] at k; exact (Below.heap_alloc _ _ _ (by rw [hs2]; omega)).trans k
  have hq0 : (((w.alloc (.cells #[.slice ai ni ci, .slice ao no co, .int .i64 win, .bool false, .bool false, .bool wt, .int .i64 h, .int .i64 q, .int .i64 m] 35)).alloc (.cells #[.slice none 0 0, .slice none 0 0, .int .i64 0, .bool false, .bool false, .bool false, .int .i64 0, .int .i64 0, .int .i64 0] 35)).alloc (.cells #[.string ⟨#[]⟩, .string ⟨#[]⟩, .int .i64 0, .slice none 0 0, .slice none 0 0] 43)).heap[w.heap.size + 2]? = some (.cells #[.string ⟨#[]⟩, .string ⟨#[]⟩, .int .i64 0, .slice none 0 0, .slice none 0 0] 43) := by have k := tblk_new ((w.alloc (.cells #[.slice ai ni ci, .slice ao no co, .int .i64 win, .bool false, .bool false, .bool wt, .int .i64 h, .int .i64 q, .int .i64 m] 35)).alloc (.cells #[.slice none 0 0, .slice none 0 0, .int .i64 0, .bool false, .bool false, .bool false, .int .i64 0, .int .i64 0, .int .i64 0] 35)) (.cells #[.string ⟨#[]⟩, .string ⟨#[]⟩, .int .i64 0, .slice none 0 0, .slice none 0 0] 43); rw [hs2] at k; exact k
  have HW0 : Hid (Below w.heap.size w (((w.alloc (.cells #[.slice ai ni ci, .slice ao no co, .int .i64 win, .bool false, .bool false, .bool wt, .int .i64 h, .int .i64 q, .int .i64 m] 35)).alloc (.cells #[.slice none 0 0, .slice none 0 0, .int .i64 0, .bool false, .bool false, .bool false, .int .i64 0, .int .i64 0, .int .i64 0] 35)).alloc (.cells #[.string ⟨#[]⟩, .string ⟨#[]⟩, .int .i64 0, .slice none 0 0, .slice none 0 0] 43))) := (((Below.refl w.heap.size w).alloc (Nat.le_refl _) _).alloc (by rw [hs1]; omega) _).alloc (by rw [hs2]; omega) _
  have hs0 : (((w.alloc (.cells #[.slice ai ni ci, .slice ao no co, .int .i64 win, .bool false, .bool false, .bool wt, .int .i64 h, .int .i64 q, .int .i64 m] 35)).alloc (.cells #[.slice none 0 0, .slice none 0 0, .int .i64 0, .bool false, .bool false, .bool false, .int .i64 0, .int .i64 0, .int .i64 0] 35)).alloc (.cells #[.string ⟨#[]⟩, .string ⟨#[]⟩, .int .i64 0, .slice none 0 0, .slice none 0 0] 43)).heap.size = w.heap.size + 3 := by simp
  have HS0 := hidC hs0
  have HB0 := hidC hb0
  have HR0 := hidC hr0
  have HQ0 := hidC hq0
  clear hs1 hs2 hs0 hb0 hr0 hq0
  have HRQ : Hid (∀ W, Below w.heap.size w W → Calls Tryz.prog 46 #[.slice ai ni ci] W fun e w' => ∃ fa ba fc bc, e = .returned (.tuple #[.agg #[.string ⟨#[]⟩, .string ⟨#[]⟩, .int .i64 0, .slice fa 0 fc, .slice ba 0 bc], .int .i64 0, .int .i64 0]) ∧ OwnF W.heap.size w' (.slice fa 0 fc) [] ∧ Own W.heap.size w' (.slice ba 0 bc) [] ∧ Below W.heap.size W w') := hRQ
  clear hRQ
  go_enter Tryz.func15, Tryz.ntmps15
  go_upto_region 1 with fail
  have hb := HB0.out
  have hr := HR0.out
  have hq := HQ0.out
  have HW := HW0
  have hws := Nat.le_of_eq HS0.out.symm
  clear HB0 HR0 HQ0 HW0 HS0
  generalize (((w.alloc (.cells #[.slice ai ni ci, .slice ao no co, .int .i64 win, .bool false, .bool false, .bool wt, .int .i64 h, .int .i64 q, .int .i64 m] 35)).alloc (.cells #[.slice none 0 0, .slice none 0 0, .int .i64 0, .bool false, .bool false, .bool false, .int .i64 0, .int .i64 0, .int .i64 0] 35)).alloc (.cells #[.string ⟨#[]⟩, .string ⟨#[]⟩, .int .i64 0, .slice none 0 0, .slice none 0 0] 43)) = w1 at *
  have hob : w.heap.size + 3 ≤ w1.heap.size := hws
  have a0 := tblk_cell (i := 0) hb rfl
  have az0 := lblk_z (i := 0) hb
  have a3 := tblk_cell (i := 3) hb rfl
  have az3 := lblk_z (i := 3) hb
  have a4 := tblk_cell (i := 4) hb rfl
  have az4 := lblk_z (i := 4) hb
  go_wp2_with fail
  refine (HRQ.out _ HW.out).mono ?_
  rintro e w2 ⟨fa, ba, fc, bc, rfl, OF, OB, B⟩
  have hb := (B.block _ (heap_lt hb)).trans hb
  have hr := (B.block _ (heap_lt hr)).trans hr
  have hq := (B.block _ (heap_lt hq)).trans hq
  have HW : Hid (Below w.heap.size w w2) := HW.out.trans (B.mono HW.out.size)
  have hws : w.heap.size + 3 ≤ w2.heap.size := Nat.le_trans hws B.size
  clear a0 az0 a3 az3 a4 az4
  have U : Below w2.heap.size w2 (w2.alloc (.cells #[.string ⟨#[]⟩, .string ⟨#[]⟩, .int .i64 0, .slice fa 0 fc, .slice ba 0 bc] 43)) := (Below.refl _ _).alloc (Nat.le_refl _) _
  have hy := tblk_new w2 (.cells #[.string ⟨#[]⟩, .string ⟨#[]⟩, .int .i64 0, .slice fa 0 fc, .slice ba 0 bc] 43)
  have hyw : w.heap.size + 3 ≤ w2.heap.size := hws
  have OF := OF.keep U
  have OB := OB.keep U
  have hb2 : (w2.alloc (.cells #[.string ⟨#[]⟩, .string ⟨#[]⟩, .int .i64 0, .slice fa 0 fc, .slice ba 0 bc] 43)).heap[w.heap.size]? = _ := tblk_below hb U
  have hr2 : (w2.alloc (.cells #[.string ⟨#[]⟩, .string ⟨#[]⟩, .int .i64 0, .slice fa 0 fc, .slice ba 0 bc] 43)).heap[w.heap.size + 1]? = _ := tblk_below hr U
  have hq2 : (w2.alloc (.cells #[.string ⟨#[]⟩, .string ⟨#[]⟩, .int .i64 0, .slice fa 0 fc, .slice ba 0 bc] 43)).heap[w.heap.size + 2]? = _ := tblk_below hq U
  have HW2 : Hid (Below w.heap.size w (w2.alloc (.cells #[.string ⟨#[]⟩, .string ⟨#[]⟩, .int .i64 0, .slice fa 0 fc, .slice ba 0 bc] 43))) := HW.out.trans (U.mono HW.out.size)
  have hws2 : w.heap.size + 3 ≤ (w2.alloc (.cells #[.string ⟨#[]⟩, .string ⟨#[]⟩, .int .i64 0, .slice fa 0 fc, .slice ba 0 bc] 43)).heap.size := Nat.le_trans hws U.size
  go_upto_region 4 with fail
  generalize (w2.alloc (.cells #[.string ⟨#[]⟩, .string ⟨#[]⟩, .int .i64 0, .slice fa 0 fc, .slice ba 0 bc] 43)) = w3 at *
  clear hb hr hq HW hws 
  have hb := hb2
  have hr := hr2
  have hq := hq2
  have HW := HW2
  have hws := hws2
  clear hb2 hr2 hq2 HW2 hws2
  clear U B
  clear hy hyw OF OB hob
  go_upto_region 7 with fail
  obtain ⟨e0, e1, e2, e3, e4, e5, e6, e7, e8⟩ := t9_cells hb
  obtain ⟨c0, c1, c2, c3, c4, c5, c6, c7, c8⟩ := t9_cells hr
  obtain ⟨cz0, cz1, cz2, cz3, cz4, cz5, cz6, cz7, cz8⟩ := t9_z hr
  have HRB := nine_cells hr (.slice ai ni ci) (.slice ao no co) (.int .i64 win) (.bool false) (.bool false) (.bool wt) (.int .i64 h) (.int .i64 q) (.int .i64 m)
  have HQB : (nine w3 (w.heap.size + 1) (.slice ai ni ci) (.slice ao no co) (.int .i64 win) (.bool false) (.bool false) (.bool wt) (.int .i64 h) (.int .i64 q) (.int .i64 m)).heap[w.heap.size + 2]? = _ := (nine_away (show w.heap.size + 2 ≠ w.heap.size + 1 by omega)).trans hq
  have HRC : (five (nine w3 (w.heap.size + 1) (.slice ai ni ci) (.slice ao no co) (.int .i64 win) (.bool false) (.bool false) (.bool wt) (.int .i64 h) (.int .i64 q) (.int .i64 m)) (w.heap.size + 2) (.string ⟨#[]⟩) (.string ⟨#[]⟩) (.int .i64 0) (.slice none 0 0) (.slice none 0 0)).heap[w.heap.size + 1]? = _ := (five_away (show ¬ w.heap.size + 1 = w.heap.size + 2 by omega)).trans HRB
  have HQC := five_cells HQB (.string ⟨#[]⟩) (.string ⟨#[]⟩) (.int .i64 0) (.slice none 0 0) (.slice none 0 0)
  have HEB := hidC (five_below (.string ⟨#[]⟩) (.string ⟨#[]⟩) (.int .i64 0) (.slice none 0 0) (.slice none 0 0) (nine_below (.slice ai ni ci) (.slice ao no co) (.int .i64 win) (.bool false) (.bool false) (.bool wt) (.int .i64 h) (.int .i64 q) (.int .i64 m) HW.out (show w.heap.size ≤ (w.heap.size + 1) by omega)) (show w.heap.size ≤ (w.heap.size + 2) by omega))
  unfold nine at HRB HQB HRC HQC HEB
  unfold five at HRC HQC HEB
  have q0 := tblk_cell (i := 0) HQB rfl
  have qz0 := lblk_z (i := 0) HQB
  have q1 := tblk_cell (i := 1) HQB rfl
  have qz1 := lblk_z (i := 1) HQB
  have q2 := tblk_cell (i := 2) HQB rfl
  have qz2 := lblk_z (i := 2) HQB
  have q3 := tblk_cell (i := 3) HQB rfl
  have qz3 := lblk_z (i := 3) HQB
  have q4 := tblk_cell (i := 4) HQB rfl
  have qz4 := lblk_z (i := 4) HQB
  obtain ⟨r0, r1, r2, r3, r4, r5, r6, r7, r8⟩ := t9_cells HRC
  have s0 := tblk_cell (i := 0) HQC rfl
  have s1 := tblk_cell (i := 1) HQC rfl
  have s2 := tblk_cell (i := 2) HQC rfl
  have s3 := tblk_cell (i := 3) HQC rfl
  have s4 := tblk_cell (i := 4) HQC rfl
  clear HRB HQB HRC HQC hb hr hq HW hws HRQ
  go_wp2
  refine bodyPost_ret (v := .tuple #[.agg #[.slice ai ni ci, .slice ao no co, .int .i64 win, .bool false, .bool false, .bool wt, .int .i64 h, .int .i64 q, .int .i64 m], .agg #[.string ⟨#[]⟩, .string ⟨#[]⟩, .int .i64 0, .slice none 0 0, .slice none 0 0], .int .i64 (-1)]) (by simp [results, Tryz.results15, go_sem, r0, r1, r2, r3, r4, r5, r6, r7, r8, s0, s1, s2, s3, s4]) rfl ?_
  exact ⟨rfl, HEB.out⟩
set_option maxRecDepth 100000 in
set_option maxHeartbeats 4000000 in
theorem r18next_st (ai : Option Addr) (ni ci : Nat) (ao : Option Addr) (no co : Nat) (win : Int) (wt : Bool) (h q m : Int) (w : World) (st : Int) (hst : ¬ st = 0) (h0 : 0 ≤ h) (h1 : h ≤ m) (h2 : m ≤ 1099511627776) (g1 : (ni : Int) ≤ h)
    (hRQ : ∀ W, Below w.heap.size w W → Calls Tryz.prog 46 #[.slice ai ni ci] W fun e w' => ∃ fa ba fc bc, e = .returned (.tuple #[.agg #[.string ⟨#[]⟩, .string ⟨#[]⟩, .int .i64 0, .slice fa 0 fc, .slice ba 0 bc], .int .i64 0, .int .i64 st]) ∧ OwnF W.heap.size w' (.slice fa 0 fc) [] ∧ Own W.heap.size w' (.slice ba 0 bc) [] ∧ Below W.heap.size W w') :
    Calls Tryz.prog 15 #[.agg #[.slice ai ni ci, .slice ao no co, .int .i64 win, .bool false, .bool false, .bool wt, .int .i64 h, .int .i64 q, .int .i64 m]] w fun e w' => ∃ a, e = .returned (.tuple #[.agg #[.slice a 0 0, .slice ao no co, .int .i64 win, .bool false, .bool true, .bool wt, .int .i64 (h - ni), .int .i64 q, .int .i64 m], .agg #[.string ⟨#[]⟩, .string ⟨#[]⟩, .int .i64 0, .slice none 0 0, .slice none 0 0], .int .i64 st]) ∧ Below w.heap.size w w' := by
  have hs1 : (w.alloc (.cells #[.slice ai ni ci, .slice ao no co, .int .i64 win, .bool false, .bool false, .bool wt, .int .i64 h, .int .i64 q, .int .i64 m] 35)).heap.size = w.heap.size + 1 := by simp
  have hs2 : ((w.alloc (.cells #[.slice ai ni ci, .slice ao no co, .int .i64 win, .bool false, .bool false, .bool wt, .int .i64 h, .int .i64 q, .int .i64 m] 35)).alloc (.cells #[.slice none 0 0, .slice none 0 0, .int .i64 0, .bool false, .bool false, .bool false, .int .i64 0, .int .i64 0, .int .i64 0] 35)).heap.size = w.heap.size + 2 := by simp
  have hb0 : (((w.alloc (.cells #[.slice ai ni ci, .slice ao no co, .int .i64 win, .bool false, .bool false, .bool wt, .int .i64 h, .int .i64 q, .int .i64 m] 35)).alloc (.cells #[.slice none 0 0, .slice none 0 0, .int .i64 0, .bool false, .bool false, .bool false, .int .i64 0, .int .i64 0, .int .i64 0] 35)).alloc (.cells #[.string ⟨#[]⟩, .string ⟨#[]⟩, .int .i64 0, .slice none 0 0, .slice none 0 0] 43)).heap[w.heap.size]? = some (.cells #[.slice ai ni ci, .slice ao no co, .int .i64 win, .bool false, .bool false, .bool wt, .int .i64 h, .int .i64 q, .int .i64 m] 35) := (Below.heap_alloc _ _ _ (by rw [hs2]; omega)).trans ((Below.heap_alloc _ _ _ (by rw [hs1]; omega)).trans (tblk_new _ _))
  have hr0 : (((w.alloc (.cells #[.slice ai ni ci, .slice ao no co, .int .i64 win, .bool false, .bool false, .bool wt, .int .i64 h, .int .i64 q, .int .i64 m] 35)).alloc (.cells #[.slice none 0 0, .slice none 0 0, .int .i64 0, .bool false, .bool false, .bool false, .int .i64 0, .int .i64 0, .int .i64 0] 35)).alloc (.cells #[.string ⟨#[]⟩, .string ⟨#[]⟩, .int .i64 0, .slice none 0 0, .slice none 0 0] 43)).heap[w.heap.size + 1]? = some (.cells #[.slice none 0 0, .slice none 0 0, .int .i64 0, .bool false, .bool false, .bool false, .int .i64 0, .int .i64 0, .int .i64 0] 35) := by have k := tblk_new (w.alloc (.cells #[.slice ai ni ci, .slice ao no co, .int .i64 win, .bool false, .bool false, .bool wt, .int .i64 h, .int .i64 q, .int .i64 m] 35)) (.cells #[.slice none 0 0, .slice none 0 0, .int .i64 0, .bool false, .bool false, .bool false, .int .i64 0, .int .i64 0, .int .i64 0] 35); rw [hs1] at k; exact (Below.heap_alloc _ _ _ (by rw [hs2]; omega)).trans k
  have hq0 : (((w.alloc (.cells #[.slice ai ni ci, .slice ao no co, .int .i64 win, .bool false, .bool false, .bool wt, .int .i64 h, .int .i64 q, .int .i64 m] 35)).alloc (.cells #[.slice none 0 0, .slice none 0 0, .int .i64 0, .bool false, .bool false, .bool false, .int .i64 0, .int .i64 0, .int .i64 0] 35)).alloc (.cells #[.string ⟨#[]⟩, .string ⟨#[]⟩, .int .i64 0, .slice none 0 0, .slice none 0 0] 43)).heap[w.heap.size + 2]? = some (.cells #[.string ⟨#[]⟩, .string ⟨#[]⟩, .int .i64 0, .slice none 0 0, .slice none 0 0] 43) := by have k := tblk_new ((w.alloc (.cells #[.slice ai ni ci, .slice ao no co, .int .i64 win, .bool false, .bool false, .bool wt, .int .i64 h, .int .i64 q, .int .i64 m] 35)).alloc (.cells #[.slice none 0 0, .slice none 0 0, .int .i64 0, .bool false, .bool false, .bool false, .int .i64 0, .int .i64 0, .int .i64 0] 35)) (.cells #[.string ⟨#[]⟩, .string ⟨#[]⟩, .int .i64 0, .slice none 0 0, .slice none 0 0] 43); rw [hs2] at k; exact k
  have HW0 : Hid (Below w.heap.size w (((w.alloc (.cells #[.slice ai ni ci, .slice ao no co, .int .i64 win, .bool false, .bool false, .bool wt, .int .i64 h, .int .i64 q, .int .i64 m] 35)).alloc (.cells #[.slice none 0 0, .slice none 0 0, .int .i64 0, .bool false, .bool false, .bool false, .int .i64 0, .int .i64 0, .int .i64 0] 35)).alloc (.cells #[.string ⟨#[]⟩, .string ⟨#[]⟩, .int .i64 0, .slice none 0 0, .slice none 0 0] 43))) := (((Below.refl w.heap.size w).alloc (Nat.le_refl _) _).alloc (by rw [hs1]; omega) _).alloc (by rw [hs2]; omega) _
  have hs0 : (((w.alloc (.cells #[.slice ai ni ci, .slice ao no co, .int .i64 win, .bool false, .bool false, .bool wt, .int .i64 h, .int .i64 q, .int .i64 m] 35)).alloc (.cells #[.slice none 0 0, .slice none 0 0, .int .i64 0, .bool false, .bool false, .bool false, .int .i64 0, .int .i64 0, .int .i64 0] 35)).alloc (.cells #[.string ⟨#[]⟩, .string ⟨#[]⟩, .int .i64 0, .slice none 0 0, .slice none 0 0] 43)).heap.size = w.heap.size + 3 := by simp
  have HS0 := hidC hs0
  have HB0 := hidC hb0
  have HR0 := hidC hr0
  have HQ0 := hidC hq0
  clear hs1 hs2 hs0 hb0 hr0 hq0
  have HRQ : Hid (∀ W, Below w.heap.size w W → Calls Tryz.prog 46 #[.slice ai ni ci] W fun e w' => ∃ fa ba fc bc, e = .returned (.tuple #[.agg #[.string ⟨#[]⟩, .string ⟨#[]⟩, .int .i64 0, .slice fa 0 fc, .slice ba 0 bc], .int .i64 0, .int .i64 st]) ∧ OwnF W.heap.size w' (.slice fa 0 fc) [] ∧ Own W.heap.size w' (.slice ba 0 bc) [] ∧ Below W.heap.size W w') := hRQ
  clear hRQ
  have hst1 : (st != 0) = true := by simpa using hst
  clear hst
  have HG := hidC (fun W : World => r18shut_no ai ni ci ao no co win false wt h q m W h0 h1 h2 g1)
  unfold dv at HG
  clear h0 h1 h2 g1
  go_enter Tryz.func15, Tryz.ntmps15
  go_upto_region 1 with fail
  have hb := HB0.out
  have hr := HR0.out
  have hq := HQ0.out
  have HW := HW0
  have hws := Nat.le_of_eq HS0.out.symm
  clear HB0 HR0 HQ0 HW0 HS0
  generalize (((w.alloc (.cells #[.slice ai ni ci, .slice ao no co, .int .i64 win, .bool false, .bool false, .bool wt, .int .i64 h, .int .i64 q, .int .i64 m] 35)).alloc (.cells #[.slice none 0 0, .slice none 0 0, .int .i64 0, .bool false, .bool false, .bool false, .int .i64 0, .int .i64 0, .int .i64 0] 35)).alloc (.cells #[.string ⟨#[]⟩, .string ⟨#[]⟩, .int .i64 0, .slice none 0 0, .slice none 0 0] 43)) = w1 at *
  have hob : w.heap.size + 3 ≤ w1.heap.size := hws
  have a0 := tblk_cell (i := 0) hb rfl
  have az0 := lblk_z (i := 0) hb
  have a3 := tblk_cell (i := 3) hb rfl
  have az3 := lblk_z (i := 3) hb
  have a4 := tblk_cell (i := 4) hb rfl
  have az4 := lblk_z (i := 4) hb
  go_wp2_with fail
  refine (HRQ.out _ HW.out).mono ?_
  rintro e w2 ⟨fa, ba, fc, bc, rfl, OF, OB, B⟩
  have hb := (B.block _ (heap_lt hb)).trans hb
  have hr := (B.block _ (heap_lt hr)).trans hr
  have hq := (B.block _ (heap_lt hq)).trans hq
  have HW : Hid (Below w.heap.size w w2) := HW.out.trans (B.mono HW.out.size)
  have hws : w.heap.size + 3 ≤ w2.heap.size := Nat.le_trans hws B.size
  clear a0 az0 a3 az3 a4 az4
  have U : Below w2.heap.size w2 (w2.alloc (.cells #[.string ⟨#[]⟩, .string ⟨#[]⟩, .int .i64 0, .slice fa 0 fc, .slice ba 0 bc] 43)) := (Below.refl _ _).alloc (Nat.le_refl _) _
  have hy := tblk_new w2 (.cells #[.string ⟨#[]⟩, .string ⟨#[]⟩, .int .i64 0, .slice fa 0 fc, .slice ba 0 bc] 43)
  have hyw : w.heap.size + 3 ≤ w2.heap.size := hws
  have OF := OF.keep U
  have OB := OB.keep U
  have hb2 : (w2.alloc (.cells #[.string ⟨#[]⟩, .string ⟨#[]⟩, .int .i64 0, .slice fa 0 fc, .slice ba 0 bc] 43)).heap[w.heap.size]? = _ := tblk_below hb U
  have hr2 : (w2.alloc (.cells #[.string ⟨#[]⟩, .string ⟨#[]⟩, .int .i64 0, .slice fa 0 fc, .slice ba 0 bc] 43)).heap[w.heap.size + 1]? = _ := tblk_below hr U
  have hq2 : (w2.alloc (.cells #[.string ⟨#[]⟩, .string ⟨#[]⟩, .int .i64 0, .slice fa 0 fc, .slice ba 0 bc] 43)).heap[w.heap.size + 2]? = _ := tblk_below hq U
  have HW2 : Hid (Below w.heap.size w (w2.alloc (.cells #[.string ⟨#[]⟩, .string ⟨#[]⟩, .int .i64 0, .slice fa 0 fc, .slice ba 0 bc] 43))) := HW.out.trans (U.mono HW.out.size)
  have hws2 : w.heap.size + 3 ≤ (w2.alloc (.cells #[.string ⟨#[]⟩, .string ⟨#[]⟩, .int .i64 0, .slice fa 0 fc, .slice ba 0 bc] 43)).heap.size := Nat.le_trans hws U.size
  go_upto_region 4 with fail
  generalize (w2.alloc (.cells #[.string ⟨#[]⟩, .string ⟨#[]⟩, .int .i64 0, .slice fa 0 fc, .slice ba 0 bc] 43)) = w3 at *
  clear hb hr hq HW hws 
  have hb := hb2
  have hr := hr2
  have hq := hq2
  have HW := HW2
  have hws := hws2
  clear hb2 hr2 hq2 HW2 hws2
  clear U B
  clear hy hyw OF OB hob
  obtain ⟨e0, e1, e2, e3, e4, e5, e6, e7, e8⟩ := t9_cells hb
  go_wp2_with fail
  refine (HG.out _).mono ?_
  rintro e w4 ⟨az, rfl, B⟩
  have hb := (B.block _ (heap_lt hb)).trans hb
  have hr := (B.block _ (heap_lt hr)).trans hr
  have hq := (B.block _ (heap_lt hq)).trans hq
  have HW : Hid (Below w.heap.size w w4) := HW.out.trans (B.mono HW.out.size)
  have hws : w.heap.size + 3 ≤ w4.heap.size := Nat.le_trans hws B.size
  clear e0 e1 e2 e3 e4 e5 e6 e7 e8
  obtain ⟨e0, e1, e2, e3, e4, e5, e6, e7, e8⟩ := t9_cells hb
  obtain ⟨c0, c1, c2, c3, c4, c5, c6, c7, c8⟩ := t9_cells hr
  obtain ⟨cz0, cz1, cz2, cz3, cz4, cz5, cz6, cz7, cz8⟩ := t9_z hr
  have HRB := nine_cells hr (.slice az 0 0) (.slice ao no co) (.int .i64 win) (.bool false) (.bool true) (.bool wt) (.int .i64 (h - ni)) (.int .i64 q) (.int .i64 m)
  have HQB : (nine w4 (w.heap.size + 1) (.slice az 0 0) (.slice ao no co) (.int .i64 win) (.bool false) (.bool true) (.bool wt) (.int .i64 (h - ni)) (.int .i64 q) (.int .i64 m)).heap[w.heap.size + 2]? = _ := (nine_away (show w.heap.size + 2 ≠ w.heap.size + 1 by omega)).trans hq
  have HRC : (five (nine w4 (w.heap.size + 1) (.slice az 0 0) (.slice ao no co) (.int .i64 win) (.bool false) (.bool true) (.bool wt) (.int .i64 (h - ni)) (.int .i64 q) (.int .i64 m)) (w.heap.size + 2) (.string ⟨#[]⟩) (.string ⟨#[]⟩) (.int .i64 0) (.slice none 0 0) (.slice none 0 0)).heap[w.heap.size + 1]? = _ := (five_away (show ¬ w.heap.size + 1 = w.heap.size + 2 by omega)).trans HRB
  have HQC := five_cells HQB (.string ⟨#[]⟩) (.string ⟨#[]⟩) (.int .i64 0) (.slice none 0 0) (.slice none 0 0)
  have HEB := hidC (five_below (.string ⟨#[]⟩) (.string ⟨#[]⟩) (.int .i64 0) (.slice none 0 0) (.slice none 0 0) (nine_below (.slice az 0 0) (.slice ao no co) (.int .i64 win) (.bool false) (.bool true) (.bool wt) (.int .i64 (h - ni)) (.int .i64 q) (.int .i64 m) HW.out (show w.heap.size ≤ (w.heap.size + 1) by omega)) (show w.heap.size ≤ (w.heap.size + 2) by omega))
  unfold nine at HRB HQB HRC HQC HEB
  unfold five at HRC HQC HEB
  have q0 := tblk_cell (i := 0) HQB rfl
  have qz0 := lblk_z (i := 0) HQB
  have q1 := tblk_cell (i := 1) HQB rfl
  have qz1 := lblk_z (i := 1) HQB
  have q2 := tblk_cell (i := 2) HQB rfl
  have qz2 := lblk_z (i := 2) HQB
  have q3 := tblk_cell (i := 3) HQB rfl
  have qz3 := lblk_z (i := 3) HQB
  have q4 := tblk_cell (i := 4) HQB rfl
  have qz4 := lblk_z (i := 4) HQB
  obtain ⟨r0, r1, r2, r3, r4, r5, r6, r7, r8⟩ := t9_cells HRC
  have s0 := tblk_cell (i := 0) HQC rfl
  have s1 := tblk_cell (i := 1) HQC rfl
  have s2 := tblk_cell (i := 2) HQC rfl
  have s3 := tblk_cell (i := 3) HQC rfl
  have s4 := tblk_cell (i := 4) HQC rfl
  clear HRB HQB HRC HQC hb hr hq HW hws HRQ HG B
  go_wp2
  refine bodyPost_ret (v := .tuple #[.agg #[.slice az 0 0, .slice ao no co, .int .i64 win, .bool false, .bool true, .bool wt, .int .i64 (h - ni), .int .i64 q, .int .i64 m], .agg #[.string ⟨#[]⟩, .string ⟨#[]⟩, .int .i64 0, .slice none 0 0, .slice none 0 0], .int .i64 st]) (by simp [results, Tryz.results15, go_sem, r0, r1, r2, r3, r4, r5, r6, r7, r8, s0, s1, s2, s3, s4]) rfl ?_
  exact ⟨az, rfl, HEB.out⟩
set_option maxRecDepth 100000 in
set_option maxHeartbeats 4000000 in
theorem r18next_more (ai : Option Addr) (ni ci : Nat) (ao : Option Addr) (no co : Nat) (win : Int) (wt : Bool) (h q m : Int) (w : World) (nn fl bl : Nat) (rm rt : ByteArray) (rmi : Int) (fs : Fs) (body : List UInt8) (hn : ¬ nn = 0) (h0 : 0 ≤ h) (h1 : h ≤ m) (h2 : m ≤ 1099511627776) (g1 : nn ≤ ni) (g2 : ni ≤ ci) (g3 : (ni : Int) ≤ h) (hci : ci ≤ 9223372036854775807) (hl : ¬ ci = nn)
    (hRQ : ∀ W, Below w.heap.size w W → Calls Tryz.prog 46 #[.slice ai ni ci] W fun e w' => ∃ fa ba fc bc, e = .returned (.tuple #[.agg #[.string rm, .string rt, .int .i64 rmi, .slice fa fl fc, .slice ba bl bc], .int .i64 nn, .int .i64 0]) ∧ OwnF W.heap.size w' (.slice fa fl fc) fs ∧ Own W.heap.size w' (.slice ba bl bc) body ∧ Below W.heap.size W w') :
    Calls Tryz.prog 15 #[.agg #[.slice ai ni ci, .slice ao no co, .int .i64 win, .bool false, .bool false, .bool wt, .int .i64 h, .int .i64 q, .int .i64 m]] w fun e w' => ∃ fa ba fc bc, e = .returned (.tuple #[.agg #[.slice (Option.map (fun x => x.add nn) ai) (ni - nn) (ci - nn), .slice ao no co, .int .i64 win, .bool true, .bool false, .bool false, .int .i64 (h - nn), .int .i64 q, .int .i64 m], .agg #[.string rm, .string rt, .int .i64 rmi, .slice fa fl fc, .slice ba bl bc], .int .i64 0]) ∧ OwnF w.heap.size w' (.slice fa fl fc) fs ∧ Own w.heap.size w' (.slice ba bl bc) body ∧ Below w.heap.size w w' := by
  have hs1 : (w.alloc (.cells #[.slice ai ni ci, .slice ao no co, .int .i64 win, .bool false, .bool false, .bool wt, .int .i64 h, .int .i64 q, .int .i64 m] 35)).heap.size = w.heap.size + 1 := by simp
  have hs2 : ((w.alloc (.cells #[.slice ai ni ci, .slice ao no co, .int .i64 win, .bool false, .bool false, .bool wt, .int .i64 h, .int .i64 q, .int .i64 m] 35)).alloc (.cells #[.slice none 0 0, .slice none 0 0, .int .i64 0, .bool false, .bool false, .bool false, .int .i64 0, .int .i64 0, .int .i64 0] 35)).heap.size = w.heap.size + 2 := by simp
  have hb0 : (((w.alloc (.cells #[.slice ai ni ci, .slice ao no co, .int .i64 win, .bool false, .bool false, .bool wt, .int .i64 h, .int .i64 q, .int .i64 m] 35)).alloc (.cells #[.slice none 0 0, .slice none 0 0, .int .i64 0, .bool false, .bool false, .bool false, .int .i64 0, .int .i64 0, .int .i64 0] 35)).alloc (.cells #[.string ⟨#[]⟩, .string ⟨#[]⟩, .int .i64 0, .slice none 0 0, .slice none 0 0] 43)).heap[w.heap.size]? = some (.cells #[.slice ai ni ci, .slice ao no co, .int .i64 win, .bool false, .bool false, .bool wt, .int .i64 h, .int .i64 q, .int .i64 m] 35) := (Below.heap_alloc _ _ _ (by rw [hs2]; omega)).trans ((Below.heap_alloc _ _ _ (by rw [hs1]; omega)).trans (tblk_new _ _))
  have hr0 : (((w.alloc (.cells #[.slice ai ni ci, .slice ao no co, .int .i64 win, .bool false, .bool false, .bool wt, .int .i64 h, .int .i64 q, .int .i64 m] 35)).alloc (.cells #[.slice none 0 0, .slice none 0 0, .int .i64 0, .bool false, .bool false, .bool false, .int .i64 0, .int .i64 0, .int .i64 0] 35)).alloc (.cells #[.string ⟨#[]⟩, .string ⟨#[]⟩, .int .i64 0, .slice none 0 0, .slice none 0 0] 43)).heap[w.heap.size + 1]? = some (.cells #[.slice none 0 0, .slice none 0 0, .int .i64 0, .bool false, .bool false, .bool false, .int .i64 0, .int .i64 0, .int .i64 0] 35) := by have k := tblk_new (w.alloc (.cells #[.slice ai ni ci, .slice ao no co, .int .i64 win, .bool false, .bool false, .bool wt, .int .i64 h, .int .i64 q, .int .i64 m] 35)) (.cells #[.slice none 0 0, .slice none 0 0, .int .i64 0, .bool false, .bool false, .bool false, .int .i64 0, .int .i64 0, .int .i64 0] 35); rw [hs1] at k; exact (Below.heap_alloc _ _ _ (by rw [hs2]; omega)).trans k
  have hq0 : (((w.alloc (.cells #[.slice ai ni ci, .slice ao no co, .int .i64 win, .bool false, .bool false, .bool wt, .int .i64 h, .int .i64 q, .int .i64 m] 35)).alloc (.cells #[.slice none 0 0, .slice none 0 0, .int .i64 0, .bool false, .bool false, .bool false, .int .i64 0, .int .i64 0, .int .i64 0] 35)).alloc (.cells #[.string ⟨#[]⟩, .string ⟨#[]⟩, .int .i64 0, .slice none 0 0, .slice none 0 0] 43)).heap[w.heap.size + 2]? = some (.cells #[.string ⟨#[]⟩, .string ⟨#[]⟩, .int .i64 0, .slice none 0 0, .slice none 0 0] 43) := by have k := tblk_new ((w.alloc (.cells #[.slice ai ni ci, .slice ao no co, .int .i64 win, .bool false, .bool false, .bool wt, .int .i64 h, .int .i64 q, .int .i64 m] 35)).alloc (.cells #[.slice none 0 0, .slice none 0 0, .int .i64 0, .bool false, .bool false, .bool false, .int .i64 0, .int .i64 0, .int .i64 0] 35)) (.cells #[.string ⟨#[]⟩, .string ⟨#[]⟩, .int .i64 0, .slice none 0 0, .slice none 0 0] 43); rw [hs2] at k; exact k
  have HW0 : Hid (Below w.heap.size w (((w.alloc (.cells #[.slice ai ni ci, .slice ao no co, .int .i64 win, .bool false, .bool false, .bool wt, .int .i64 h, .int .i64 q, .int .i64 m] 35)).alloc (.cells #[.slice none 0 0, .slice none 0 0, .int .i64 0, .bool false, .bool false, .bool false, .int .i64 0, .int .i64 0, .int .i64 0] 35)).alloc (.cells #[.string ⟨#[]⟩, .string ⟨#[]⟩, .int .i64 0, .slice none 0 0, .slice none 0 0] 43))) := (((Below.refl w.heap.size w).alloc (Nat.le_refl _) _).alloc (by rw [hs1]; omega) _).alloc (by rw [hs2]; omega) _
  have hs0 : (((w.alloc (.cells #[.slice ai ni ci, .slice ao no co, .int .i64 win, .bool false, .bool false, .bool wt, .int .i64 h, .int .i64 q, .int .i64 m] 35)).alloc (.cells #[.slice none 0 0, .slice none 0 0, .int .i64 0, .bool false, .bool false, .bool false, .int .i64 0, .int .i64 0, .int .i64 0] 35)).alloc (.cells #[.string ⟨#[]⟩, .string ⟨#[]⟩, .int .i64 0, .slice none 0 0, .slice none 0 0] 43)).heap.size = w.heap.size + 3 := by simp
  have HS0 := hidC hs0
  have HB0 := hidC hb0
  have HR0 := hidC hr0
  have HQ0 := hidC hq0
  clear hs1 hs2 hs0 hb0 hr0 hq0
  have HRQ : Hid (∀ W, Below w.heap.size w W → Calls Tryz.prog 46 #[.slice ai ni ci] W fun e w' => ∃ fa ba fc bc, e = .returned (.tuple #[.agg #[.string rm, .string rt, .int .i64 rmi, .slice fa fl fc, .slice ba bl bc], .int .i64 nn, .int .i64 0]) ∧ OwnF W.heap.size w' (.slice fa fl fc) fs ∧ Own W.heap.size w' (.slice ba bl bc) body ∧ Below W.heap.size W w') := hRQ
  clear hRQ
  have hn2 : ((nn : Int) == 0) = false := by simpa using hn
  have HG := hidC (fun W : World => r18give_any ai ni ci ao no co win false false wt h q m nn W h0 h1 h2 (by omega) (by omega))
  unfold dv at HG
  clear h0 h1 h2
  go_enter Tryz.func15, Tryz.ntmps15
  go_upto_region 1 with fail
  have hb := HB0.out
  have hr := HR0.out
  have hq := HQ0.out
  have HW := HW0
  have hws := Nat.le_of_eq HS0.out.symm
  clear HB0 HR0 HQ0 HW0 HS0
  generalize (((w.alloc (.cells #[.slice ai ni ci, .slice ao no co, .int .i64 win, .bool false, .bool false, .bool wt, .int .i64 h, .int .i64 q, .int .i64 m] 35)).alloc (.cells #[.slice none 0 0, .slice none 0 0, .int .i64 0, .bool false, .bool false, .bool false, .int .i64 0, .int .i64 0, .int .i64 0] 35)).alloc (.cells #[.string ⟨#[]⟩, .string ⟨#[]⟩, .int .i64 0, .slice none 0 0, .slice none 0 0] 43)) = w1 at *
  have hob : w.heap.size + 3 ≤ w1.heap.size := hws
  have a0 := tblk_cell (i := 0) hb rfl
  have az0 := lblk_z (i := 0) hb
  have a3 := tblk_cell (i := 3) hb rfl
  have az3 := lblk_z (i := 3) hb
  have a4 := tblk_cell (i := 4) hb rfl
  have az4 := lblk_z (i := 4) hb
  go_wp2_with fail
  refine (HRQ.out _ HW.out).mono ?_
  rintro e w2 ⟨fa, ba, fc, bc, rfl, OF, OB, B⟩
  have hb := (B.block _ (heap_lt hb)).trans hb
  have hr := (B.block _ (heap_lt hr)).trans hr
  have hq := (B.block _ (heap_lt hq)).trans hq
  have HW : Hid (Below w.heap.size w w2) := HW.out.trans (B.mono HW.out.size)
  have hws : w.heap.size + 3 ≤ w2.heap.size := Nat.le_trans hws B.size
  clear a0 az0 a3 az3 a4 az4
  have U : Below w2.heap.size w2 (w2.alloc (.cells #[.string rm, .string rt, .int .i64 rmi, .slice fa fl fc, .slice ba bl bc] 43)) := (Below.refl _ _).alloc (Nat.le_refl _) _
  have hy := tblk_new w2 (.cells #[.string rm, .string rt, .int .i64 rmi, .slice fa fl fc, .slice ba bl bc] 43)
  have hyw : w.heap.size + 3 ≤ w2.heap.size := hws
  have OF := OF.keep U
  have OB := OB.keep U
  have hb2 : (w2.alloc (.cells #[.string rm, .string rt, .int .i64 rmi, .slice fa fl fc, .slice ba bl bc] 43)).heap[w.heap.size]? = _ := tblk_below hb U
  have hr2 : (w2.alloc (.cells #[.string rm, .string rt, .int .i64 rmi, .slice fa fl fc, .slice ba bl bc] 43)).heap[w.heap.size + 1]? = _ := tblk_below hr U
  have hq2 : (w2.alloc (.cells #[.string rm, .string rt, .int .i64 rmi, .slice fa fl fc, .slice ba bl bc] 43)).heap[w.heap.size + 2]? = _ := tblk_below hq U
  have HW2 : Hid (Below w.heap.size w (w2.alloc (.cells #[.string rm, .string rt, .int .i64 rmi, .slice fa fl fc, .slice ba bl bc] 43))) := HW.out.trans (U.mono HW.out.size)
  have hws2 : w.heap.size + 3 ≤ (w2.alloc (.cells #[.string rm, .string rt, .int .i64 rmi, .slice fa fl fc, .slice ba bl bc] 43)).heap.size := Nat.le_trans hws U.size
  go_upto_region 4 with fail
  generalize (w2.alloc (.cells #[.string rm, .string rt, .int .i64 rmi, .slice fa fl fc, .slice ba bl bc] 43)) = w3 at *
  clear hb hr hq HW hws 
  have hb := hb2
  have hr := hr2
  have hq := hq2
  have HW := HW2
  have hws := hws2
  clear hb2 hr2 hq2 HW2 hws2
  clear U B
  obtain ⟨e0, e1, e2, e3, e4, e5, e6, e7, e8⟩ := t9_cells hb
  go_wp2_with fail
  refine (HG.out _).mono ?_
  rintro e w4 ⟨rfl, B⟩
  have hb := (B.block _ (heap_lt hb)).trans hb
  have hr := (B.block _ (heap_lt hr)).trans hr
  have hq := (B.block _ (heap_lt hq)).trans hq
  have HW : Hid (Below w.heap.size w w4) := HW.out.trans (B.mono HW.out.size)
  have hws : w.heap.size + 3 ≤ w4.heap.size := Nat.le_trans hws B.size
  have hy := (B.block _ (heap_lt hy)).trans hy
  have OF := OF.keep B
  have OB := OB.keep B
  clear B e0 e1 e2 e3 e4 e5 e6 e7 e8
  obtain ⟨a0, a1, a2, a3, a4, a5, a6, a7, a8⟩ := t9_cells hb
  obtain ⟨az0, az1, az2, az3, az4, az5, az6, az7, az8⟩ := t9_z hb
  have hb2 : (nine w4 w.heap.size (.slice ai ni ci) (.slice ao no co) (.int .i64 win) (.bool false) (.bool false) (.bool wt) (.int .i64 (h - nn)) (.int .i64 q) (.int .i64 m)).heap[w.heap.size]? = _ := nine_cells hb (.slice ai ni ci) (.slice ao no co) (.int .i64 win) (.bool false) (.bool false) (.bool wt) (.int .i64 (h - nn)) (.int .i64 q) (.int .i64 m)
  have hr2 : (nine w4 w.heap.size (.slice ai ni ci) (.slice ao no co) (.int .i64 win) (.bool false) (.bool false) (.bool wt) (.int .i64 (h - nn)) (.int .i64 q) (.int .i64 m)).heap[w.heap.size + 1]? = _ := (nine_away (show w.heap.size + 1 ≠ w.heap.size by omega)).trans hr
  have hq2 : (nine w4 w.heap.size (.slice ai ni ci) (.slice ao no co) (.int .i64 win) (.bool false) (.bool false) (.bool wt) (.int .i64 (h - nn)) (.int .i64 q) (.int .i64 m)).heap[w.heap.size + 2]? = _ := (nine_away (show w.heap.size + 2 ≠ w.heap.size by omega)).trans hq
  have hy2 : (nine w4 w.heap.size (.slice ai ni ci) (.slice ao no co) (.int .i64 win) (.bool false) (.bool false) (.bool wt) (.int .i64 (h - nn)) (.int .i64 q) (.int .i64 m)).heap[w2.heap.size]? = _ := (nine_away (show w2.heap.size ≠ w.heap.size by omega)).trans hy
  have HW2 : Hid (Below w.heap.size w (nine w4 w.heap.size (.slice ai ni ci) (.slice ao no co) (.int .i64 win) (.bool false) (.bool false) (.bool wt) (.int .i64 (h - nn)) (.int .i64 q) (.int .i64 m))) := nine_below (.slice ai ni ci) (.slice ao no co) (.int .i64 win) (.bool false) (.bool false) (.bool wt) (.int .i64 (h - nn)) (.int .i64 q) (.int .i64 m) HW.out (Nat.le_refl _)
  have hws2 : w.heap.size + 3 ≤ (nine w4 w.heap.size (.slice ai ni ci) (.slice ao no co) (.int .i64 win) (.bool false) (.bool false) (.bool wt) (.int .i64 (h - nn)) (.int .i64 q) (.int .i64 m)).heap.size := by unfold nine; simp [World.setCell]; exact hws
  have OF2 : OwnF w1.heap.size (nine w4 w.heap.size (.slice ai ni ci) (.slice ao no co) (.int .i64 win) (.bool false) (.bool false) (.bool wt) (.int .i64 (h - nn)) (.int .i64 q) (.int .i64 m)) (.slice fa fl fc) fs := OF.kept (fun k g1 g2 => nine_away (show k ≠ w.heap.size by omega))
  have OB2 : Own w1.heap.size (nine w4 w.heap.size (.slice ai ni ci) (.slice ao no co) (.int .i64 win) (.bool false) (.bool false) (.bool wt) (.int .i64 (h - nn)) (.int .i64 q) (.int .i64 m)) (.slice ba bl bc) body := OB.kept (fun k g1 g2 => nine_away (show k ≠ w.heap.size by omega))
  unfold nine at hb2 hr2 hq2 hy2 HW2 hws2 OF2 OB2
  go_upto_region 9 with fail
  generalize (((((((((w4.setCell ⟨w.heap.size, 0, none⟩ (.slice ai ni ci)).setCell ⟨w.heap.size, 1, none⟩ (.slice ao no co)).setCell ⟨w.heap.size, 2, none⟩ (.int .i64 win)).setCell ⟨w.heap.size, 3, none⟩ (.bool false)).setCell ⟨w.heap.size, 4, none⟩ (.bool false)).setCell ⟨w.heap.size, 5, none⟩ (.bool wt)).setCell ⟨w.heap.size, 6, none⟩ (.int .i64 (h - nn))).setCell ⟨w.heap.size, 7, none⟩ (.int .i64 q)).setCell ⟨w.heap.size, 8, none⟩ (.int .i64 m)) = w5 at *
  clear hb hr hq hy HW hws OF OB a0 az0 a1 az1 a2 az2 a3 az3 a4 az4 a5 az5 a6 az6 a7 az7 a8 az8
  have hb := hb2
  have hr := hr2
  have hq := hq2
  have hy := hy2
  have HW := HW2
  have hws := hws2
  have OF := OF2
  have OB := OB2
  clear hb2 hr2 hq2 hy2 HW2 hws2 OF2 OB2
  have a0 := tblk_cell (i := 0) hb rfl
  have az0 := lblk_z (i := 0) hb
  have hb2 : (w5.setCell ⟨w.heap.size, 0, none⟩ (.slice (Option.map (fun x => x.add nn) ai) (ni - nn) (ci - nn))).heap[w.heap.size]? = _ := one9_0 hb (.slice (Option.map (fun x => x.add nn) ai) (ni - nn) (ci - nn))
  have hr2 : (w5.setCell ⟨w.heap.size, 0, none⟩ (.slice (Option.map (fun x => x.add nn) ai) (ni - nn) (ci - nn))).heap[w.heap.size + 1]? = _ := (set_away (show ¬ w.heap.size + 1 = w.heap.size by omega)).trans hr
  have hq2 : (w5.setCell ⟨w.heap.size, 0, none⟩ (.slice (Option.map (fun x => x.add nn) ai) (ni - nn) (ci - nn))).heap[w.heap.size + 2]? = _ := (set_away (show ¬ w.heap.size + 2 = w.heap.size by omega)).trans hq
  have hy2 : (w5.setCell ⟨w.heap.size, 0, none⟩ (.slice (Option.map (fun x => x.add nn) ai) (ni - nn) (ci - nn))).heap[w2.heap.size]? = _ := (set_away (show ¬ w2.heap.size = w.heap.size by omega)).trans hy
  have HW2 : Hid (Below w.heap.size w (w5.setCell ⟨w.heap.size, 0, none⟩ (.slice (Option.map (fun x => x.add nn) ai) (ni - nn) (ci - nn)))) := HW.out.setCell (p := ⟨w.heap.size, 0, none⟩) (Nat.le_refl _) _
  have hws2 : w.heap.size + 3 ≤ (w5.setCell ⟨w.heap.size, 0, none⟩ (.slice (Option.map (fun x => x.add nn) ai) (ni - nn) (ci - nn))).heap.size := by simp [World.setCell]; exact hws
  have OF2 : OwnF w1.heap.size (w5.setCell ⟨w.heap.size, 0, none⟩ (.slice (Option.map (fun x => x.add nn) ai) (ni - nn) (ci - nn))) (.slice fa fl fc) fs := OF.kept (fun k g1 g2 => set_away (show ¬ k = w.heap.size by omega))
  have OB2 : Own w1.heap.size (w5.setCell ⟨w.heap.size, 0, none⟩ (.slice (Option.map (fun x => x.add nn) ai) (ni - nn) (ci - nn))) (.slice ba bl bc) body := OB.kept (fun k g1 g2 => set_away (show ¬ k = w.heap.size by omega))
  go_upto_region 10 with fail
  generalize (w5.setCell ⟨w.heap.size, 0, none⟩ (.slice (Option.map (fun x => x.add nn) ai) (ni - nn) (ci - nn))) = w6 at *
  clear hb hr hq hy HW hws OF OB a0 az0
  have hb := hb2
  have hr := hr2
  have hq := hq2
  have hy := hy2
  have HW := HW2
  have hws := hws2
  have OF := OF2
  have OB := OB2
  clear hb2 hr2 hq2 hy2 HW2 hws2 OF2 OB2
  have a3 := tblk_cell (i := 3) hb rfl
  have az3 := lblk_z (i := 3) hb
  have hb2 : (w6.setCell ⟨w.heap.size, 3, none⟩ (.bool true)).heap[w.heap.size]? = _ := one9_3 hb (.bool true)
  have hr2 : (w6.setCell ⟨w.heap.size, 3, none⟩ (.bool true)).heap[w.heap.size + 1]? = _ := (set_away (show ¬ w.heap.size + 1 = w.heap.size by omega)).trans hr
  have hq2 : (w6.setCell ⟨w.heap.size, 3, none⟩ (.bool true)).heap[w.heap.size + 2]? = _ := (set_away (show ¬ w.heap.size + 2 = w.heap.size by omega)).trans hq
  have hy2 : (w6.setCell ⟨w.heap.size, 3, none⟩ (.bool true)).heap[w2.heap.size]? = _ := (set_away (show ¬ w2.heap.size = w.heap.size by omega)).trans hy
  have HW2 : Hid (Below w.heap.size w (w6.setCell ⟨w.heap.size, 3, none⟩ (.bool true))) := HW.out.setCell (p := ⟨w.heap.size, 3, none⟩) (Nat.le_refl _) _
  have hws2 : w.heap.size + 3 ≤ (w6.setCell ⟨w.heap.size, 3, none⟩ (.bool true)).heap.size := by simp [World.setCell]; exact hws
  have OF2 : OwnF w1.heap.size (w6.setCell ⟨w.heap.size, 3, none⟩ (.bool true)) (.slice fa fl fc) fs := OF.kept (fun k g1 g2 => set_away (show ¬ k = w.heap.size by omega))
  have OB2 : Own w1.heap.size (w6.setCell ⟨w.heap.size, 3, none⟩ (.bool true)) (.slice ba bl bc) body := OB.kept (fun k g1 g2 => set_away (show ¬ k = w.heap.size by omega))
  go_upto_region 11 with fail
  generalize (w6.setCell ⟨w.heap.size, 3, none⟩ (.bool true)) = w7 at *
  clear hb hr hq hy HW hws OF OB a3 az3
  have hb := hb2
  have hr := hr2
  have hq := hq2
  have hy := hy2
  have HW := HW2
  have hws := hws2
  have OF := OF2
  have OB := OB2
  clear hb2 hr2 hq2 hy2 HW2 hws2 OF2 OB2
  have a5 := tblk_cell (i := 5) hb rfl
  have az5 := lblk_z (i := 5) hb
  have hb2 : (w7.setCell ⟨w.heap.size, 5, none⟩ (.bool false)).heap[w.heap.size]? = _ := one9_5 hb (.bool false)
  have hr2 : (w7.setCell ⟨w.heap.size, 5, none⟩ (.bool false)).heap[w.heap.size + 1]? = _ := (set_away (show ¬ w.heap.size + 1 = w.heap.size by omega)).trans hr
  have hq2 : (w7.setCell ⟨w.heap.size, 5, none⟩ (.bool false)).heap[w.heap.size + 2]? = _ := (set_away (show ¬ w.heap.size + 2 = w.heap.size by omega)).trans hq
  have hy2 : (w7.setCell ⟨w.heap.size, 5, none⟩ (.bool false)).heap[w2.heap.size]? = _ := (set_away (show ¬ w2.heap.size = w.heap.size by omega)).trans hy
  have HW2 : Hid (Below w.heap.size w (w7.setCell ⟨w.heap.size, 5, none⟩ (.bool false))) := HW.out.setCell (p := ⟨w.heap.size, 5, none⟩) (Nat.le_refl _) _
  have hws2 : w.heap.size + 3 ≤ (w7.setCell ⟨w.heap.size, 5, none⟩ (.bool false)).heap.size := by simp [World.setCell]; exact hws
  have OF2 : OwnF w1.heap.size (w7.setCell ⟨w.heap.size, 5, none⟩ (.bool false)) (.slice fa fl fc) fs := OF.kept (fun k g1 g2 => set_away (show ¬ k = w.heap.size by omega))
  have OB2 : Own w1.heap.size (w7.setCell ⟨w.heap.size, 5, none⟩ (.bool false)) (.slice ba bl bc) body := OB.kept (fun k g1 g2 => set_away (show ¬ k = w.heap.size by omega))
  go_upto_region 12 with fail
  generalize (w7.setCell ⟨w.heap.size, 5, none⟩ (.bool false)) = w8 at *
  clear hb hr hq hy HW hws OF OB a5 az5
  have hb := hb2
  have hr := hr2
  have hq := hq2
  have hy := hy2
  have HW := HW2
  have hws := hws2
  have OF := OF2
  have OB := OB2
  clear hb2 hr2 hq2 hy2 HW2 hws2 OF2 OB2
  obtain ⟨e0, e1, e2, e3, e4, e5, e6, e7, e8⟩ := t9_cells hb
  have y0 := tblk_cell (i := 0) hy rfl
  have y1 := tblk_cell (i := 1) hy rfl
  have y2 := tblk_cell (i := 2) hy rfl
  have y3 := tblk_cell (i := 3) hy rfl
  have y4 := tblk_cell (i := 4) hy rfl
  obtain ⟨c0, c1, c2, c3, c4, c5, c6, c7, c8⟩ := t9_cells hr
  obtain ⟨cz0, cz1, cz2, cz3, cz4, cz5, cz6, cz7, cz8⟩ := t9_z hr
  have q0 := tblk_cell (i := 0) hq rfl
  have qz0 := lblk_z (i := 0) hq
  have q1 := tblk_cell (i := 1) hq rfl
  have qz1 := lblk_z (i := 1) hq
  have q2 := tblk_cell (i := 2) hq rfl
  have qz2 := lblk_z (i := 2) hq
  have q3 := tblk_cell (i := 3) hq rfl
  have qz3 := lblk_z (i := 3) hq
  have q4 := tblk_cell (i := 4) hq rfl
  have qz4 := lblk_z (i := 4) hq
  have A1 : (nine w8 (w.heap.size + 1) (.slice (Option.map (fun x => x.add nn) ai) (ni - nn) (ci - nn)) (.slice ao no co) (.int .i64 win) (.bool true) (.bool false) (.bool false) (.int .i64 (h - nn)) (.int .i64 q) (.int .i64 m)).heap[w.heap.size + 2]? = _ := (nine_away (show w.heap.size + 2 ≠ w.heap.size + 1 by omega)).trans hq
  have A2 : (five w8 (w.heap.size + 2) (.string rm) (.string rt) (.int .i64 rmi) (.slice fa fl fc) (.slice ba bl bc)).heap[w.heap.size + 1]? = _ := (five_away (show ¬ w.heap.size + 1 = w.heap.size + 2 by omega)).trans hr
  unfold nine at A1
  unfold five at A2
  have qq0 := tblk_cell (i := 0) A1 rfl
  have qqz0 := lblk_z (i := 0) A1
  have qq1 := tblk_cell (i := 1) A1 rfl
  have qqz1 := lblk_z (i := 1) A1
  have qq2 := tblk_cell (i := 2) A1 rfl
  have qqz2 := lblk_z (i := 2) A1
  have qq3 := tblk_cell (i := 3) A1 rfl
  have qqz3 := lblk_z (i := 3) A1
  have qq4 := tblk_cell (i := 4) A1 rfl
  have qqz4 := lblk_z (i := 4) A1
  obtain ⟨cc0, cc1, cc2, cc3, cc4, cc5, cc6, cc7, cc8⟩ := t9_cells A2
  obtain ⟨ccz0, ccz1, ccz2, ccz3, ccz4, ccz5, ccz6, ccz7, ccz8⟩ := t9_z A2
  have HRB := nine_cells hr (.slice (Option.map (fun x => x.add nn) ai) (ni - nn) (ci - nn)) (.slice ao no co) (.int .i64 win) (.bool true) (.bool false) (.bool false) (.int .i64 (h - nn)) (.int .i64 q) (.int .i64 m)
  have HQB : (nine w8 (w.heap.size + 1) (.slice (Option.map (fun x => x.add nn) ai) (ni - nn) (ci - nn)) (.slice ao no co) (.int .i64 win) (.bool true) (.bool false) (.bool false) (.int .i64 (h - nn)) (.int .i64 q) (.int .i64 m)).heap[w.heap.size + 2]? = _ := (nine_away (show w.heap.size + 2 ≠ w.heap.size + 1 by omega)).trans hq
  have HRC : (five (nine w8 (w.heap.size + 1) (.slice (Option.map (fun x => x.add nn) ai) (ni - nn) (ci - nn)) (.slice ao no co) (.int .i64 win) (.bool true) (.bool false) (.bool false) (.int .i64 (h - nn)) (.int .i64 q) (.int .i64 m)) (w.heap.size + 2) (.string rm) (.string rt) (.int .i64 rmi) (.slice fa fl fc) (.slice ba bl bc)).heap[w.heap.size + 1]? = _ := (five_away (show ¬ w.heap.size + 1 = w.heap.size + 2 by omega)).trans HRB
  have HQC := five_cells HQB (.string rm) (.string rt) (.int .i64 rmi) (.slice fa fl fc) (.slice ba bl bc)
  have HEB := hidC (five_below (.string rm) (.string rt) (.int .i64 rmi) (.slice fa fl fc) (.slice ba bl bc) (nine_below (.slice (Option.map (fun x => x.add nn) ai) (ni - nn) (ci - nn)) (.slice ao no co) (.int .i64 win) (.bool true) (.bool false) (.bool false) (.int .i64 (h - nn)) (.int .i64 q) (.int .i64 m) HW.out (show w.heap.size ≤ (w.heap.size + 1) by omega)) (show w.heap.size ≤ (w.heap.size + 2) by omega)).drew
  have HOF : Hid (OwnF w.heap.size (five (nine w8 (w.heap.size + 1) (.slice (Option.map (fun x => x.add nn) ai) (ni - nn) (ci - nn)) (.slice ao no co) (.int .i64 win) (.bool true) (.bool false) (.bool false) (.int .i64 (h - nn)) (.int .i64 q) (.int .i64 m)) (w.heap.size + 2) (.string rm) (.string rt) (.int .i64 rmi) (.slice fa fl fc) (.slice ba bl bc)).drew (.slice fa fl fc) fs) := ((OF.kept (w' := (five (nine w8 (w.heap.size + 1) (.slice (Option.map (fun x => x.add nn) ai) (ni - nn) (ci - nn)) (.slice ao no co) (.int .i64 win) (.bool true) (.bool false) (.bool false) (.int .i64 (h - nn)) (.int .i64 q) (.int .i64 m)) (w.heap.size + 2) (.string rm) (.string rt) (.int .i64 rmi) (.slice fa fl fc) (.slice ba bl bc))) (fun k g1 g2 => (five_away (show ¬ k = w.heap.size + 2 by omega)).trans (nine_away (show k ≠ w.heap.size + 1 by omega)))).keep ((Below.refl _ _).drew)).mono (by omega)
  have HOB : Hid (Own w.heap.size (five (nine w8 (w.heap.size + 1) (.slice (Option.map (fun x => x.add nn) ai) (ni - nn) (ci - nn)) (.slice ao no co) (.int .i64 win) (.bool true) (.bool false) (.bool false) (.int .i64 (h - nn)) (.int .i64 q) (.int .i64 m)) (w.heap.size + 2) (.string rm) (.string rt) (.int .i64 rmi) (.slice fa fl fc) (.slice ba bl bc)).drew (.slice ba bl bc) body) := ((OB.kept (w' := (five (nine w8 (w.heap.size + 1) (.slice (Option.map (fun x => x.add nn) ai) (ni - nn) (ci - nn)) (.slice ao no co) (.int .i64 win) (.bool true) (.bool false) (.bool false) (.int .i64 (h - nn)) (.int .i64 q) (.int .i64 m)) (w.heap.size + 2) (.string rm) (.string rt) (.int .i64 rmi) (.slice fa fl fc) (.slice ba bl bc))) (fun k g1 g2 => (five_away (show ¬ k = w.heap.size + 2 by omega)).trans (nine_away (show k ≠ w.heap.size + 1 by omega)))).keep ((Below.refl _ _).drew)).mono (by omega)
  unfold nine at HRB HQB HRC HQC HEB HOF HOB
  unfold five at HRC HQC HEB HOF HOB
  obtain ⟨r0, r1, r2, r3, r4, r5, r6, r7, r8⟩ := t9_cells HRC
  have s0 := tblk_cell (i := 0) HQC rfl
  have s1 := tblk_cell (i := 1) HQC rfl
  have s2 := tblk_cell (i := 2) HQC rfl
  have s3 := tblk_cell (i := 3) HQC rfl
  have s4 := tblk_cell (i := 4) HQC rfl
  clear HRB HQB HRC HQC hb hr hq hy hws HW A1 A2 OF OB hob HRQ HG
  go_region
  go_wp2
  refine bodyPost_ret (v := .tuple #[.agg #[.slice (Option.map (fun x => x.add nn) ai) (ni - nn) (ci - nn), .slice ao no co, .int .i64 win, .bool true, .bool false, .bool false, .int .i64 (h - nn), .int .i64 q, .int .i64 m], .agg #[.string rm, .string rt, .int .i64 rmi, .slice fa fl fc, .slice ba bl bc], .int .i64 0]) (by simp [results, Tryz.results15, go_sem, r0, r1, r2, r3, r4, r5, r6, r7, r8, s0, s1, s2, s3, s4]) rfl ?_
  exact ⟨fa, ba, fc, bc, rfl, HOF.out, HOB.out, HEB.out⟩
set_option maxRecDepth 100000 in
set_option maxHeartbeats 4000000 in
theorem r18next_last (ai : Option Addr) (ao : Option Addr) (no co : Nat) (win : Int) (wt : Bool) (h q m : Int) (w : World) (nn fl bl : Nat) (rm rt : ByteArray) (rmi : Int) (fs : Fs) (body : List UInt8) (hn : ¬ nn = 0) (h0 : 0 ≤ h) (h1 : h ≤ m) (h2 : m ≤ 1099511627776) (g3 : (nn : Int) ≤ h) (hci : nn ≤ 9223372036854775807)
    (hRQ : ∀ W, Below w.heap.size w W → Calls Tryz.prog 46 #[.slice ai nn nn] W fun e w' => ∃ fa ba fc bc, e = .returned (.tuple #[.agg #[.string rm, .string rt, .int .i64 rmi, .slice fa fl fc, .slice ba bl bc], .int .i64 nn, .int .i64 0]) ∧ OwnF W.heap.size w' (.slice fa fl fc) fs ∧ Own W.heap.size w' (.slice ba bl bc) body ∧ Below W.heap.size W w') :
    Calls Tryz.prog 15 #[.agg #[.slice ai nn nn, .slice ao no co, .int .i64 win, .bool false, .bool false, .bool wt, .int .i64 h, .int .i64 q, .int .i64 m]] w fun e w' => ∃ fa ba fc bc, e = .returned (.tuple #[.agg #[.slice ai 0 0, .slice ao no co, .int .i64 win, .bool true, .bool false, .bool false, .int .i64 (h - nn), .int .i64 q, .int .i64 m], .agg #[.string rm, .string rt, .int .i64 rmi, .slice fa fl fc, .slice ba bl bc], .int .i64 0]) ∧ OwnF w.heap.size w' (.slice fa fl fc) fs ∧ Own w.heap.size w' (.slice ba bl bc) body ∧ Below w.heap.size w w' := by
  have hs1 : (w.alloc (.cells #[.slice ai nn nn, .slice ao no co, .int .i64 win, .bool false, .bool false, .bool wt, .int .i64 h, .int .i64 q, .int .i64 m] 35)).heap.size = w.heap.size + 1 := by simp
  have hs2 : ((w.alloc (.cells #[.slice ai nn nn, .slice ao no co, .int .i64 win, .bool false, .bool false, .bool wt, .int .i64 h, .int .i64 q, .int .i64 m] 35)).alloc (.cells #[.slice none 0 0, .slice none 0 0, .int .i64 0, .bool false, .bool false, .bool false, .int .i64 0, .int .i64 0, .int .i64 0] 35)).heap.size = w.heap.size + 2 := by simp
  have hb0 : (((w.alloc (.cells #[.slice ai nn nn, .slice ao no co, .int .i64 win, .bool false, .bool false, .bool wt, .int .i64 h, .int .i64 q, .int .i64 m] 35)).alloc (.cells #[.slice none 0 0, .slice none 0 0, .int .i64 0, .bool false, .bool false, .bool false, .int .i64 0, .int .i64 0, .int .i64 0] 35)).alloc (.cells #[.string ⟨#[]⟩, .string ⟨#[]⟩, .int .i64 0, .slice none 0 0, .slice none 0 0] 43)).heap[w.heap.size]? = some (.cells #[.slice ai nn nn, .slice ao no co, .int .i64 win, .bool false, .bool false, .bool wt, .int .i64 h, .int .i64 q, .int .i64 m] 35) := (Below.heap_alloc _ _ _ (by rw [hs2]; omega)).trans ((Below.heap_alloc _ _ _ (by rw [hs1]; omega)).trans (tblk_new _ _))
  have hr0 : (((w.alloc (.cells #[.slice ai nn nn, .slice ao no co, .int .i64 win, .bool false, .bool false, .bool wt, .int .i64 h, .int .i64 q, .int .i64 m] 35)).alloc (.cells #[.slice none 0 0, .slice none 0 0, .int .i64 0, .bool false, .bool false, .bool false, .int .i64 0, .int .i64 0, .int .i64 0] 35)).alloc (.cells #[.string ⟨#[]⟩, .string ⟨#[]⟩, .int .i64 0, .slice none 0 0, .slice none 0 0] 43)).heap[w.heap.size + 1]? = some (.cells #[.slice none 0 0, .slice none 0 0, .int .i64 0, .bool false, .bool false, .bool false, .int .i64 0, .int .i64 0, .int .i64 0] 35) := by have k := tblk_new (w.alloc (.cells #[.slice ai nn nn, .slice ao no co, .int .i64 win, .bool false, .bool false, .bool wt, .int .i64 h, .int .i64 q, .int .i64 m] 35)) (.cells #[.slice none 0 0, .slice none 0 0, .int .i64 0, .bool false, .bool false, .bool false, .int .i64 0, .int .i64 0, .int .i64 0] 35); rw [hs1] at k; exact (Below.heap_alloc _ _ _ (by rw [hs2]; omega)).trans k
  have hq0 : (((w.alloc (.cells #[.slice ai nn nn, .slice ao no co, .int .i64 win, .bool false, .bool false, .bool wt, .int .i64 h, .int .i64 q, .int .i64 m] 35)).alloc (.cells #[.slice none 0 0, .slice none 0 0, .int .i64 0, .bool false, .bool false, .bool false, .int .i64 0, .int .i64 0, .int .i64 0] 35)).alloc (.cells #[.string ⟨#[]⟩, .string ⟨#[]⟩, .int .i64 0, .slice none 0 0, .slice none 0 0] 43)).heap[w.heap.size + 2]? = some (.cells #[.string ⟨#[]⟩, .string ⟨#[]⟩, .int .i64 0, .slice none 0 0, .slice none 0 0] 43) := by have k := tblk_new ((w.alloc (.cells #[.slice ai nn nn, .slice ao no co, .int .i64 win, .bool false, .bool false, .bool wt, .int .i64 h, .int .i64 q, .int .i64 m] 35)).alloc (.cells #[.slice none 0 0, .slice none 0 0, .int .i64 0, .bool false, .bool false, .bool false, .int .i64 0, .int .i64 0, .int .i64 0] 35)) (.cells #[.string ⟨#[]⟩, .string ⟨#[]⟩, .int .i64 0, .slice none 0 0, .slice none 0 0] 43); rw [hs2] at k; exact k
  have HW0 : Hid (Below w.heap.size w (((w.alloc (.cells #[.slice ai nn nn, .slice ao no co, .int .i64 win, .bool false, .bool false, .bool wt, .int .i64 h, .int .i64 q, .int .i64 m] 35)).alloc (.cells #[.slice none 0 0, .slice none 0 0, .int .i64 0, .bool false, .bool false, .bool false, .int .i64 0, .int .i64 0, .int .i64 0] 35)).alloc (.cells #[.string ⟨#[]⟩, .string ⟨#[]⟩, .int .i64 0, .slice none 0 0, .slice none 0 0] 43))) := (((Below.refl w.heap.size w).alloc (Nat.le_refl _) _).alloc (by rw [hs1]; omega) _).alloc (by rw [hs2]; omega) _
  have hs0 : (((w.alloc (.cells #[.slice ai nn nn, .slice ao no co, .int .i64 win, .bool false, .bool false, .bool wt, .int .i64 h, .int .i64 q, .int .i64 m] 35)).alloc (.cells #[.slice none 0 0, .slice none 0 0, .int .i64 0, .bool false, .bool false, .bool false, .int .i64 0, .int .i64 0, .int .i64 0] 35)).alloc (.cells #[.string ⟨#[]⟩, .string ⟨#[]⟩, .int .i64 0, .slice none 0 0, .slice none 0 0] 43)).heap.size = w.heap.size + 3 := by simp
  have HS0 := hidC hs0
  have HB0 := hidC hb0
  have HR0 := hidC hr0
  have HQ0 := hidC hq0
  clear hs1 hs2 hs0 hb0 hr0 hq0
  have HRQ : Hid (∀ W, Below w.heap.size w W → Calls Tryz.prog 46 #[.slice ai nn nn] W fun e w' => ∃ fa ba fc bc, e = .returned (.tuple #[.agg #[.string rm, .string rt, .int .i64 rmi, .slice fa fl fc, .slice ba bl bc], .int .i64 nn, .int .i64 0]) ∧ OwnF W.heap.size w' (.slice fa fl fc) fs ∧ Own W.heap.size w' (.slice ba bl bc) body ∧ Below W.heap.size W w') := hRQ
  clear hRQ
  have hn2 : ((nn : Int) == 0) = false := by simpa using hn
  have HG := hidC (fun W : World => r18give_any ai nn nn ao no co win false false wt h q m nn W h0 h1 h2 (by omega) (by omega))
  unfold dv at HG
  clear h0 h1 h2
  go_enter Tryz.func15, Tryz.ntmps15
  go_upto_region 1 with fail
  have hb := HB0.out
  have hr := HR0.out
  have hq := HQ0.out
  have HW := HW0
  have hws := Nat.le_of_eq HS0.out.symm
  clear HB0 HR0 HQ0 HW0 HS0
  generalize (((w.alloc (.cells #[.slice ai nn nn, .slice ao no co, .int .i64 win, .bool false, .bool false, .bool wt, .int .i64 h, .int .i64 q, .int .i64 m] 35)).alloc (.cells #[.slice none 0 0, .slice none 0 0, .int .i64 0, .bool false, .bool false, .bool false, .int .i64 0, .int .i64 0, .int .i64 0] 35)).alloc (.cells #[.string ⟨#[]⟩, .string ⟨#[]⟩, .int .i64 0, .slice none 0 0, .slice none 0 0] 43)) = w1 at *
  have hob : w.heap.size + 3 ≤ w1.heap.size := hws
  have a0 := tblk_cell (i := 0) hb rfl
  have az0 := lblk_z (i := 0) hb
  have a3 := tblk_cell (i := 3) hb rfl
  have az3 := lblk_z (i := 3) hb
  have a4 := tblk_cell (i := 4) hb rfl
  have az4 := lblk_z (i := 4) hb
  go_wp2_with fail
  refine (HRQ.out _ HW.out).mono ?_
  rintro e w2 ⟨fa, ba, fc, bc, rfl, OF, OB, B⟩
  have hb := (B.block _ (heap_lt hb)).trans hb
  have hr := (B.block _ (heap_lt hr)).trans hr
  have hq := (B.block _ (heap_lt hq)).trans hq
  have HW : Hid (Below w.heap.size w w2) := HW.out.trans (B.mono HW.out.size)
  have hws : w.heap.size + 3 ≤ w2.heap.size := Nat.le_trans hws B.size
  clear a0 az0 a3 az3 a4 az4
  have U : Below w2.heap.size w2 (w2.alloc (.cells #[.string rm, .string rt, .int .i64 rmi, .slice fa fl fc, .slice ba bl bc] 43)) := (Below.refl _ _).alloc (Nat.le_refl _) _
  have hy := tblk_new w2 (.cells #[.string rm, .string rt, .int .i64 rmi, .slice fa fl fc, .slice ba bl bc] 43)
  have hyw : w.heap.size + 3 ≤ w2.heap.size := hws
  have OF := OF.keep U
  have OB := OB.keep U
  have hb2 : (w2.alloc (.cells #[.string rm, .string rt, .int .i64 rmi, .slice fa fl fc, .slice ba bl bc] 43)).heap[w.heap.size]? = _ := tblk_below hb U
  have hr2 : (w2.alloc (.cells #[.string rm, .string rt, .int .i64 rmi, .slice fa fl fc, .slice ba bl bc] 43)).heap[w.heap.size + 1]? = _ := tblk_below hr U
  have hq2 : (w2.alloc (.cells #[.string rm, .string rt, .int .i64 rmi, .slice fa fl fc, .slice ba bl bc] 43)).heap[w.heap.size + 2]? = _ := tblk_below hq U
  have HW2 : Hid (Below w.heap.size w (w2.alloc (.cells #[.string rm, .string rt, .int .i64 rmi, .slice fa fl fc, .slice ba bl bc] 43))) := HW.out.trans (U.mono HW.out.size)
  have hws2 : w.heap.size + 3 ≤ (w2.alloc (.cells #[.string rm, .string rt, .int .i64 rmi, .slice fa fl fc, .slice ba bl bc] 43)).heap.size := Nat.le_trans hws U.size
  go_upto_region 4 with fail
  generalize (w2.alloc (.cells #[.string rm, .string rt, .int .i64 rmi, .slice fa fl fc, .slice ba bl bc] 43)) = w3 at *
  clear hb hr hq HW hws 
  have hb := hb2
  have hr := hr2
  have hq := hq2
  have HW := HW2
  have hws := hws2
  clear hb2 hr2 hq2 HW2 hws2
  clear U B
  obtain ⟨e0, e1, e2, e3, e4, e5, e6, e7, e8⟩ := t9_cells hb
  go_wp2_with fail
  refine (HG.out _).mono ?_
  rintro e w4 ⟨rfl, B⟩
  have hb := (B.block _ (heap_lt hb)).trans hb
  have hr := (B.block _ (heap_lt hr)).trans hr
  have hq := (B.block _ (heap_lt hq)).trans hq
  have HW : Hid (Below w.heap.size w w4) := HW.out.trans (B.mono HW.out.size)
  have hws : w.heap.size + 3 ≤ w4.heap.size := Nat.le_trans hws B.size
  have hy := (B.block _ (heap_lt hy)).trans hy
  have OF := OF.keep B
  have OB := OB.keep B
  clear B e0 e1 e2 e3 e4 e5 e6 e7 e8
  obtain ⟨a0, a1, a2, a3, a4, a5, a6, a7, a8⟩ := t9_cells hb
  obtain ⟨az0, az1, az2, az3, az4, az5, az6, az7, az8⟩ := t9_z hb
  have hb2 : (nine w4 w.heap.size (.slice ai nn nn) (.slice ao no co) (.int .i64 win) (.bool false) (.bool false) (.bool wt) (.int .i64 (h - nn)) (.int .i64 q) (.int .i64 m)).heap[w.heap.size]? = _ := nine_cells hb (.slice ai nn nn) (.slice ao no co) (.int .i64 win) (.bool false) (.bool false) (.bool wt) (.int .i64 (h - nn)) (.int .i64 q) (.int .i64 m)
  have hr2 : (nine w4 w.heap.size (.slice ai nn nn) (.slice ao no co) (.int .i64 win) (.bool false) (.bool false) (.bool wt) (.int .i64 (h - nn)) (.int .i64 q) (.int .i64 m)).heap[w.heap.size + 1]? = _ := (nine_away (show w.heap.size + 1 ≠ w.heap.size by omega)).trans hr
  have hq2 : (nine w4 w.heap.size (.slice ai nn nn) (.slice ao no co) (.int .i64 win) (.bool false) (.bool false) (.bool wt) (.int .i64 (h - nn)) (.int .i64 q) (.int .i64 m)).heap[w.heap.size + 2]? = _ := (nine_away (show w.heap.size + 2 ≠ w.heap.size by omega)).trans hq
  have hy2 : (nine w4 w.heap.size (.slice ai nn nn) (.slice ao no co) (.int .i64 win) (.bool false) (.bool false) (.bool wt) (.int .i64 (h - nn)) (.int .i64 q) (.int .i64 m)).heap[w2.heap.size]? = _ := (nine_away (show w2.heap.size ≠ w.heap.size by omega)).trans hy
  have HW2 : Hid (Below w.heap.size w (nine w4 w.heap.size (.slice ai nn nn) (.slice ao no co) (.int .i64 win) (.bool false) (.bool false) (.bool wt) (.int .i64 (h - nn)) (.int .i64 q) (.int .i64 m))) := nine_below (.slice ai nn nn) (.slice ao no co) (.int .i64 win) (.bool false) (.bool false) (.bool wt) (.int .i64 (h - nn)) (.int .i64 q) (.int .i64 m) HW.out (Nat.le_refl _)
  have hws2 : w.heap.size + 3 ≤ (nine w4 w.heap.size (.slice ai nn nn) (.slice ao no co) (.int .i64 win) (.bool false) (.bool false) (.bool wt) (.int .i64 (h - nn)) (.int .i64 q) (.int .i64 m)).heap.size := by unfold nine; simp [World.setCell]; exact hws
  have OF2 : OwnF w1.heap.size (nine w4 w.heap.size (.slice ai nn nn) (.slice ao no co) (.int .i64 win) (.bool false) (.bool false) (.bool wt) (.int .i64 (h - nn)) (.int .i64 q) (.int .i64 m)) (.slice fa fl fc) fs := OF.kept (fun k g1 g2 => nine_away (show k ≠ w.heap.size by omega))
  have OB2 : Own w1.heap.size (nine w4 w.heap.size (.slice ai nn nn) (.slice ao no co) (.int .i64 win) (.bool false) (.bool false) (.bool wt) (.int .i64 (h - nn)) (.int .i64 q) (.int .i64 m)) (.slice ba bl bc) body := OB.kept (fun k g1 g2 => nine_away (show k ≠ w.heap.size by omega))
  unfold nine at hb2 hr2 hq2 hy2 HW2 hws2 OF2 OB2
  go_upto_region 9 with fail
  generalize (((((((((w4.setCell ⟨w.heap.size, 0, none⟩ (.slice ai nn nn)).setCell ⟨w.heap.size, 1, none⟩ (.slice ao no co)).setCell ⟨w.heap.size, 2, none⟩ (.int .i64 win)).setCell ⟨w.heap.size, 3, none⟩ (.bool false)).setCell ⟨w.heap.size, 4, none⟩ (.bool false)).setCell ⟨w.heap.size, 5, none⟩ (.bool wt)).setCell ⟨w.heap.size, 6, none⟩ (.int .i64 (h - nn))).setCell ⟨w.heap.size, 7, none⟩ (.int .i64 q)).setCell ⟨w.heap.size, 8, none⟩ (.int .i64 m)) = w5 at *
  clear hb hr hq hy HW hws OF OB a0 az0 a1 az1 a2 az2 a3 az3 a4 az4 a5 az5 a6 az6 a7 az7 a8 az8
  have hb := hb2
  have hr := hr2
  have hq := hq2
  have hy := hy2
  have HW := HW2
  have hws := hws2
  have OF := OF2
  have OB := OB2
  clear hb2 hr2 hq2 hy2 HW2 hws2 OF2 OB2
  have a0 := tblk_cell (i := 0) hb rfl
  have az0 := lblk_z (i := 0) hb
  have hb2 : (w5.setCell ⟨w.heap.size, 0, none⟩ (.slice ai 0 0)).heap[w.heap.size]? = _ := one9_0 hb (.slice ai 0 0)
  have hr2 : (w5.setCell ⟨w.heap.size, 0, none⟩ (.slice ai 0 0)).heap[w.heap.size + 1]? = _ := (set_away (show ¬ w.heap.size + 1 = w.heap.size by omega)).trans hr
  have hq2 : (w5.setCell ⟨w.heap.size, 0, none⟩ (.slice ai 0 0)).heap[w.heap.size + 2]? = _ := (set_away (show ¬ w.heap.size + 2 = w.heap.size by omega)).trans hq
  have hy2 : (w5.setCell ⟨w.heap.size, 0, none⟩ (.slice ai 0 0)).heap[w2.heap.size]? = _ := (set_away (show ¬ w2.heap.size = w.heap.size by omega)).trans hy
  have HW2 : Hid (Below w.heap.size w (w5.setCell ⟨w.heap.size, 0, none⟩ (.slice ai 0 0))) := HW.out.setCell (p := ⟨w.heap.size, 0, none⟩) (Nat.le_refl _) _
  have hws2 : w.heap.size + 3 ≤ (w5.setCell ⟨w.heap.size, 0, none⟩ (.slice ai 0 0)).heap.size := by simp [World.setCell]; exact hws
  have OF2 : OwnF w1.heap.size (w5.setCell ⟨w.heap.size, 0, none⟩ (.slice ai 0 0)) (.slice fa fl fc) fs := OF.kept (fun k g1 g2 => set_away (show ¬ k = w.heap.size by omega))
  have OB2 : Own w1.heap.size (w5.setCell ⟨w.heap.size, 0, none⟩ (.slice ai 0 0)) (.slice ba bl bc) body := OB.kept (fun k g1 g2 => set_away (show ¬ k = w.heap.size by omega))
  go_upto_region 10 with fail
  generalize (w5.setCell ⟨w.heap.size, 0, none⟩ (.slice ai 0 0)) = w6 at *
  clear hb hr hq hy HW hws OF OB a0 az0
  have hb := hb2
  have hr := hr2
  have hq := hq2
  have hy := hy2
  have HW := HW2
  have hws := hws2
  have OF := OF2
  have OB := OB2
  clear hb2 hr2 hq2 hy2 HW2 hws2 OF2 OB2
  have a3 := tblk_cell (i := 3) hb rfl
  have az3 := lblk_z (i := 3) hb
  have hb2 : (w6.setCell ⟨w.heap.size, 3, none⟩ (.bool true)).heap[w.heap.size]? = _ := one9_3 hb (.bool true)
  have hr2 : (w6.setCell ⟨w.heap.size, 3, none⟩ (.bool true)).heap[w.heap.size + 1]? = _ := (set_away (show ¬ w.heap.size + 1 = w.heap.size by omega)).trans hr
  have hq2 : (w6.setCell ⟨w.heap.size, 3, none⟩ (.bool true)).heap[w.heap.size + 2]? = _ := (set_away (show ¬ w.heap.size + 2 = w.heap.size by omega)).trans hq
  have hy2 : (w6.setCell ⟨w.heap.size, 3, none⟩ (.bool true)).heap[w2.heap.size]? = _ := (set_away (show ¬ w2.heap.size = w.heap.size by omega)).trans hy
  have HW2 : Hid (Below w.heap.size w (w6.setCell ⟨w.heap.size, 3, none⟩ (.bool true))) := HW.out.setCell (p := ⟨w.heap.size, 3, none⟩) (Nat.le_refl _) _
  have hws2 : w.heap.size + 3 ≤ (w6.setCell ⟨w.heap.size, 3, none⟩ (.bool true)).heap.size := by simp [World.setCell]; exact hws
  have OF2 : OwnF w1.heap.size (w6.setCell ⟨w.heap.size, 3, none⟩ (.bool true)) (.slice fa fl fc) fs := OF.kept (fun k g1 g2 => set_away (show ¬ k = w.heap.size by omega))
  have OB2 : Own w1.heap.size (w6.setCell ⟨w.heap.size, 3, none⟩ (.bool true)) (.slice ba bl bc) body := OB.kept (fun k g1 g2 => set_away (show ¬ k = w.heap.size by omega))
  go_upto_region 11 with fail
  generalize (w6.setCell ⟨w.heap.size, 3, none⟩ (.bool true)) = w7 at *
  clear hb hr hq hy HW hws OF OB a3 az3
  have hb := hb2
  have hr := hr2
  have hq := hq2
  have hy := hy2
  have HW := HW2
  have hws := hws2
  have OF := OF2
  have OB := OB2
  clear hb2 hr2 hq2 hy2 HW2 hws2 OF2 OB2
  have a5 := tblk_cell (i := 5) hb rfl
  have az5 := lblk_z (i := 5) hb
  have hb2 : (w7.setCell ⟨w.heap.size, 5, none⟩ (.bool false)).heap[w.heap.size]? = _ := one9_5 hb (.bool false)
  have hr2 : (w7.setCell ⟨w.heap.size, 5, none⟩ (.bool false)).heap[w.heap.size + 1]? = _ := (set_away (show ¬ w.heap.size + 1 = w.heap.size by omega)).trans hr
  have hq2 : (w7.setCell ⟨w.heap.size, 5, none⟩ (.bool false)).heap[w.heap.size + 2]? = _ := (set_away (show ¬ w.heap.size + 2 = w.heap.size by omega)).trans hq
  have hy2 : (w7.setCell ⟨w.heap.size, 5, none⟩ (.bool false)).heap[w2.heap.size]? = _ := (set_away (show ¬ w2.heap.size = w.heap.size by omega)).trans hy
  have HW2 : Hid (Below w.heap.size w (w7.setCell ⟨w.heap.size, 5, none⟩ (.bool false))) := HW.out.setCell (p := ⟨w.heap.size, 5, none⟩) (Nat.le_refl _) _
  have hws2 : w.heap.size + 3 ≤ (w7.setCell ⟨w.heap.size, 5, none⟩ (.bool false)).heap.size := by simp [World.setCell]; exact hws
  have OF2 : OwnF w1.heap.size (w7.setCell ⟨w.heap.size, 5, none⟩ (.bool false)) (.slice fa fl fc) fs := OF.kept (fun k g1 g2 => set_away (show ¬ k = w.heap.size by omega))
  have OB2 : Own w1.heap.size (w7.setCell ⟨w.heap.size, 5, none⟩ (.bool false)) (.slice ba bl bc) body := OB.kept (fun k g1 g2 => set_away (show ¬ k = w.heap.size by omega))
  go_upto_region 12 with fail
  generalize (w7.setCell ⟨w.heap.size, 5, none⟩ (.bool false)) = w8 at *
  clear hb hr hq hy HW hws OF OB a5 az5
  have hb := hb2
  have hr := hr2
  have hq := hq2
  have hy := hy2
  have HW := HW2
  have hws := hws2
  have OF := OF2
  have OB := OB2
  clear hb2 hr2 hq2 hy2 HW2 hws2 OF2 OB2
  obtain ⟨e0, e1, e2, e3, e4, e5, e6, e7, e8⟩ := t9_cells hb
  have y0 := tblk_cell (i := 0) hy rfl
  have y1 := tblk_cell (i := 1) hy rfl
  have y2 := tblk_cell (i := 2) hy rfl
  have y3 := tblk_cell (i := 3) hy rfl
  have y4 := tblk_cell (i := 4) hy rfl
  obtain ⟨c0, c1, c2, c3, c4, c5, c6, c7, c8⟩ := t9_cells hr
  obtain ⟨cz0, cz1, cz2, cz3, cz4, cz5, cz6, cz7, cz8⟩ := t9_z hr
  have q0 := tblk_cell (i := 0) hq rfl
  have qz0 := lblk_z (i := 0) hq
  have q1 := tblk_cell (i := 1) hq rfl
  have qz1 := lblk_z (i := 1) hq
  have q2 := tblk_cell (i := 2) hq rfl
  have qz2 := lblk_z (i := 2) hq
  have q3 := tblk_cell (i := 3) hq rfl
  have qz3 := lblk_z (i := 3) hq
  have q4 := tblk_cell (i := 4) hq rfl
  have qz4 := lblk_z (i := 4) hq
  have A1 : (nine w8 (w.heap.size + 1) (.slice ai 0 0) (.slice ao no co) (.int .i64 win) (.bool true) (.bool false) (.bool false) (.int .i64 (h - nn)) (.int .i64 q) (.int .i64 m)).heap[w.heap.size + 2]? = _ := (nine_away (show w.heap.size + 2 ≠ w.heap.size + 1 by omega)).trans hq
  have A2 : (five w8 (w.heap.size + 2) (.string rm) (.string rt) (.int .i64 rmi) (.slice fa fl fc) (.slice ba bl bc)).heap[w.heap.size + 1]? = _ := (five_away (show ¬ w.heap.size + 1 = w.heap.size + 2 by omega)).trans hr
  unfold nine at A1
  unfold five at A2
  have qq0 := tblk_cell (i := 0) A1 rfl
  have qqz0 := lblk_z (i := 0) A1
  have qq1 := tblk_cell (i := 1) A1 rfl
  have qqz1 := lblk_z (i := 1) A1
  have qq2 := tblk_cell (i := 2) A1 rfl
  have qqz2 := lblk_z (i := 2) A1
  have qq3 := tblk_cell (i := 3) A1 rfl
  have qqz3 := lblk_z (i := 3) A1
  have qq4 := tblk_cell (i := 4) A1 rfl
  have qqz4 := lblk_z (i := 4) A1
  obtain ⟨cc0, cc1, cc2, cc3, cc4, cc5, cc6, cc7, cc8⟩ := t9_cells A2
  obtain ⟨ccz0, ccz1, ccz2, ccz3, ccz4, ccz5, ccz6, ccz7, ccz8⟩ := t9_z A2
  have HRB := nine_cells hr (.slice ai 0 0) (.slice ao no co) (.int .i64 win) (.bool true) (.bool false) (.bool false) (.int .i64 (h - nn)) (.int .i64 q) (.int .i64 m)
  have HQB : (nine w8 (w.heap.size + 1) (.slice ai 0 0) (.slice ao no co) (.int .i64 win) (.bool true) (.bool false) (.bool false) (.int .i64 (h - nn)) (.int .i64 q) (.int .i64 m)).heap[w.heap.size + 2]? = _ := (nine_away (show w.heap.size + 2 ≠ w.heap.size + 1 by omega)).trans hq
  have HRC : (five (nine w8 (w.heap.size + 1) (.slice ai 0 0) (.slice ao no co) (.int .i64 win) (.bool true) (.bool false) (.bool false) (.int .i64 (h - nn)) (.int .i64 q) (.int .i64 m)) (w.heap.size + 2) (.string rm) (.string rt) (.int .i64 rmi) (.slice fa fl fc) (.slice ba bl bc)).heap[w.heap.size + 1]? = _ := (five_away (show ¬ w.heap.size + 1 = w.heap.size + 2 by omega)).trans HRB
  have HQC := five_cells HQB (.string rm) (.string rt) (.int .i64 rmi) (.slice fa fl fc) (.slice ba bl bc)
  have HEB := hidC (five_below (.string rm) (.string rt) (.int .i64 rmi) (.slice fa fl fc) (.slice ba bl bc) (nine_below (.slice ai 0 0) (.slice ao no co) (.int .i64 win) (.bool true) (.bool false) (.bool false) (.int .i64 (h - nn)) (.int .i64 q) (.int .i64 m) HW.out (show w.heap.size ≤ (w.heap.size + 1) by omega)) (show w.heap.size ≤ (w.heap.size + 2) by omega)).drew
  have HOF : Hid (OwnF w.heap.size (five (nine w8 (w.heap.size + 1) (.slice ai 0 0) (.slice ao no co) (.int .i64 win) (.bool true) (.bool false) (.bool false) (.int .i64 (h - nn)) (.int .i64 q) (.int .i64 m)) (w.heap.size + 2) (.string rm) (.string rt) (.int .i64 rmi) (.slice fa fl fc) (.slice ba bl bc)).drew (.slice fa fl fc) fs) := ((OF.kept (w' := (five (nine w8 (w.heap.size + 1) (.slice ai 0 0) (.slice ao no co) (.int .i64 win) (.bool true) (.bool false) (.bool false) (.int .i64 (h - nn)) (.int .i64 q) (.int .i64 m)) (w.heap.size + 2) (.string rm) (.string rt) (.int .i64 rmi) (.slice fa fl fc) (.slice ba bl bc))) (fun k g1 g2 => (five_away (show ¬ k = w.heap.size + 2 by omega)).trans (nine_away (show k ≠ w.heap.size + 1 by omega)))).keep ((Below.refl _ _).drew)).mono (by omega)
  have HOB : Hid (Own w.heap.size (five (nine w8 (w.heap.size + 1) (.slice ai 0 0) (.slice ao no co) (.int .i64 win) (.bool true) (.bool false) (.bool false) (.int .i64 (h - nn)) (.int .i64 q) (.int .i64 m)) (w.heap.size + 2) (.string rm) (.string rt) (.int .i64 rmi) (.slice fa fl fc) (.slice ba bl bc)).drew (.slice ba bl bc) body) := ((OB.kept (w' := (five (nine w8 (w.heap.size + 1) (.slice ai 0 0) (.slice ao no co) (.int .i64 win) (.bool true) (.bool false) (.bool false) (.int .i64 (h - nn)) (.int .i64 q) (.int .i64 m)) (w.heap.size + 2) (.string rm) (.string rt) (.int .i64 rmi) (.slice fa fl fc) (.slice ba bl bc))) (fun k g1 g2 => (five_away (show ¬ k = w.heap.size + 2 by omega)).trans (nine_away (show k ≠ w.heap.size + 1 by omega)))).keep ((Below.refl _ _).drew)).mono (by omega)
  unfold nine at HRB HQB HRC HQC HEB HOF HOB
  unfold five at HRC HQC HEB HOF HOB
  obtain ⟨r0, r1, r2, r3, r4, r5, r6, r7, r8⟩ := t9_cells HRC
  have s0 := tblk_cell (i := 0) HQC rfl
  have s1 := tblk_cell (i := 1) HQC rfl
  have s2 := tblk_cell (i := 2) HQC rfl
  have s3 := tblk_cell (i := 3) HQC rfl
  have s4 := tblk_cell (i := 4) HQC rfl
  clear HRB HQB HRC HQC hb hr hq hy hws HW A1 A2 OF OB hob HRQ HG
  go_region
  go_wp2
  refine bodyPost_ret (v := .tuple #[.agg #[.slice ai 0 0, .slice ao no co, .int .i64 win, .bool true, .bool false, .bool false, .int .i64 (h - nn), .int .i64 q, .int .i64 m], .agg #[.string rm, .string rt, .int .i64 rmi, .slice fa fl fc, .slice ba bl bc], .int .i64 0]) (by simp [results, Tryz.results15, go_sem, r0, r1, r2, r3, r4, r5, r6, r7, r8, s0, s1, s2, s3, s4]) rfl ?_
  exact ⟨fa, ba, fc, bc, rfl, HOF.out, HOB.out, HEB.out⟩
end Go.Proofs.YtemmmdhmkegaaaaGreatDoor

/- Conn: the document's Next, told of the connection. -/
namespace Go.Proofs.YtemmmdhmkegaaaaGreatDoor
open Go.RowKit
set_option linter.unusedVariables false

section
variable {P : Nat → Prop} {w : World} {v : Value} {s : Cs} {m : Int}
def rqV18 (r : Rd) (fa ba : Option Addr) (fc bc : Nat) : Value := .agg #[.string r.m, .string r.t, .int .i64 r.minor, .slice fa r.fs.length fc, .slice ba r.body.length bc]
theorem db_next (h : DB P w v s m) (f : Fit s m) : Calls Tryz.prog 15 #[v] w fun e w' => ∃ v' fa ba fc bc, e = .returned (.tuple #[v', rqV18 (nextS s).2.1 fa ba fc bc, .int .i64 (nextS s).2.2]) ∧ DB P w' v' (nextS s).1 m ∧
    OwnF w.heap.size w' (.slice fa (nextS s).2.1.fs.length fc) (nextS s).2.1.fs ∧ Own w.heap.size w' (.slice ba (nextS s).2.1.body.length bc) (nextS s).2.1.body ∧ Below w.heap.size w w' := by
  obtain ⟨ai, ci, ao, co, q, rfl, ⟨ki, p1, s1⟩, r2⟩ := h
  obtain ⟨f1, f2, f3, f4⟩ := f
  obtain ⟨li, lo, win, bz, wt, cl⟩ := s
  simp only at f1 f2 f3 f4 p1 s1 r2
  have r1 : RowK P w (.slice ai li.length ci) li := ⟨ki, p1, s1⟩
  have hc := s1.len
  have hcm := hc.2.2
  unfold maxLen at hcm
  unfold dagg dv
  cases bz with
  | true =>
    rw [show nextS ⟨li, lo, win, true, wt, cl⟩ = (⟨li, lo, win, true, wt, cl⟩, rdNo 0, -1) from rfl]
    refine (r18next_bz ai li.length ci ao lo.length co win cl wt _ q m w).mono ?_
    rintro e w' ⟨rfl, B⟩
    exact ⟨_, none, none, 0, 0, rfl, ⟨ai, ci, ao, co, q, rfl, r1.keep B, r2.keep B⟩, OwnF.nil _ _, Own.nil _ _, B⟩
  | false =>
    cases cl with
    | true =>
      rw [show nextS ⟨li, lo, win, false, wt, true⟩ = (⟨li, lo, win, false, wt, true⟩, rdNo 0, -1) from rfl]
      refine (r18next_cl ai li.length ci ao lo.length co win wt _ q m w).mono ?_
      rintro e w' ⟨rfl, B⟩
      exact ⟨_, none, none, 0, 0, rfl, ⟨ai, ci, ao, co, q, rfl, r1.keep B, r2.keep B⟩, OwnF.nil _ _, Own.nil _ _, B⟩
    | false =>
      have HL : ∀ W, Below w.heap.size w W → Calls Tryz.prog 46 #[.slice ai li.length ci] W (ReqR W (reqQ li)) := fun W bW => r8req_any li ki ci ai W (s1.keep (fun z => (p1 z).2) bW) (fun z => Nat.lt_of_lt_of_le (p1 z).2 bW.size) (by omega)
      unfold ReqR rdV at HL
      rcases reqQ_three li with e | ⟨t, e, ht⟩ | ⟨qm, qt, qmi, qfs, qx, qn, e, hqn, hle⟩
      · rw [e] at HL
        unfold rdNo at HL
        simp only [List.length_nil] at HL
        have en : nextS ⟨li, lo, win, false, wt, false⟩ = (⟨li, lo, win, false, wt, false⟩, rdNo 0, -1) := by
          unfold nextS
          simp only [Bool.false_eq_true, if_false, e]
          rfl
        rw [en]
        refine (r18next_no ai li.length ci ao lo.length co win wt _ q m w HL).mono ?_
        rintro e w' ⟨rfl, B⟩
        exact ⟨_, none, none, 0, 0, rfl, ⟨ai, ci, ao, co, q, rfl, r1.keep B, r2.keep B⟩, OwnF.nil _ _, Own.nil _ _, B⟩
      · rw [e] at HL
        unfold rdNo at HL
        simp only [List.length_nil] at HL
        have en : nextS ⟨li, lo, win, false, wt, false⟩ = (⟨[], lo, win, false, wt, true⟩, rdNo 0, t) := by
          unfold nextS
          simp only [Bool.false_eq_true, if_false, e]
          exact if_neg ht
        rw [en]
        refine (r18next_st ai li.length ci ao lo.length co win wt _ q m w t ht (by omega) f1 f2 (by omega) HL).mono ?_
        rintro e w' ⟨a, rfl, B⟩
        rw [show (((li.length + lo.length : Nat) : Int) - li.length) = (((0 : Nat) + lo.length : Nat) : Int) by omega]
        exact ⟨_, none, none, 0, 0, rfl, ⟨a, 0, ao, co, q, rfl, RowK.nil, r2.keep B⟩, OwnF.nil _ _, Own.nil _ _, B⟩
      · rw [e] at HL
        simp only at HL
        have en : nextS ⟨li, lo, win, false, wt, false⟩ = (⟨li.drop qn, lo, win, true, false, false⟩, ⟨qm, qt, qmi, qfs, qx, qn, 0⟩, 0) := by
          unfold nextS
          simp only [Bool.false_eq_true, if_false, e, if_true]
          rw [if_neg hqn]
        rw [en]
        by_cases hl : ci = qn
        · subst hl
          have hlo : li.length = ci := by omega
          have e0 : li.drop ci = [] := List.drop_eq_nil_of_le (by omega)
          have e1 : ((li.length + lo.length : Nat) : Int) - ci = (((0 : Nat) + lo.length : Nat) : Int) := by omega
          rw [e0]
          rw [hlo] at HL e1 f1 ⊢
          refine (r18next_last ai ao lo.length co win wt _ q m w ci qfs.length qx.length qm qt qmi qfs qx hqn (by omega) f1 f2 (by omega) (by omega) HL).mono ?_
          rintro e w' ⟨fa, ba, fc, bc, rfl, OF, OB, B⟩
          rw [e1]
          exact ⟨_, fa, ba, fc, bc, rfl, ⟨ai, 0, ao, co, q, rfl, RowK.nil, r2.keep B⟩, OF, OB, B⟩
        · refine (r18next_more ai li.length ci ao lo.length co win wt _ q m w qn qfs.length qx.length qm qt qmi qfs qx hqn (by omega) f1 f2 hle (by omega) (by omega) (by omega) hl HL).mono ?_
          rintro e w' ⟨fa, ba, fc, bc, rfl, OF, OB, B⟩
          refine ⟨_, fa, ba, fc, bc, rfl, ⟨Option.map (fun x => x.add qn) ai, ci - qn, ao, co, q, ?_, ⟨ki, ?_, ?_⟩, r2.keep B⟩, OF, OB, B⟩
          · unfold dagg dv
            simp only [List.length_drop]
            rw [show ((li.length + lo.length : Nat) : Int) - qn = ((li.length - qn + lo.length : Nat) : Int) by omega]
          · intro z
            rw [List.length_drop] at z
            exact ⟨(p1 (by omega)).1, Nat.lt_of_lt_of_le (p1 (by omega)).2 B.size⟩
          · have k2 := (s1.cut (m := qn) (a' := Option.map (fun x => x.add qn) ai) hle (fun _ => rfl)).keep (w' := w') (fun z => (p1 (by rw [List.length_drop] at z; omega)).2) B
            simp only [List.length_drop]
            exact k2
end
end Go.Proofs.YtemmmdhmkegaaaaGreatDoor
