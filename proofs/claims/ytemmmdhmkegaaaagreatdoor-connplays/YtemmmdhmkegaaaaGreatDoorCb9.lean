/- Texts that the proof leans on, one behind the other: CnT CnU -/
import Derived.Test.YtemmmdhmkegaaaaGreatDoorCb8
import Derived.Test.YtemmmdhmkegaaaaGreatDoorCb0
import Derived.Test.YtemmmdhmkegaaaaGreatDoorCb6
import Derived.Deep.Cut
/- Conn: the document's connection and meter. -/
namespace Go.Proofs.YtemmmdhmkegaaaaGreatDoor
open Go.RowKit
set_option linter.unusedVariables false

def dv (ai : Option Addr) (ni ci : Nat) (ao : Option Addr) (no co : Nat) (win : Int) (bz cl wt : Bool) (h q m : Int) : Array Value := #[.slice ai ni ci, .slice ao no co, .int .i64 win, .bool bz, .bool cl, .bool wt, .int .i64 h, .int .i64 q, .int .i64 m]
def nine (w : World) (b : Nat) (v0 v1 v2 v3 v4 v5 v6 v7 v8 : Value) : World := ((((((((w.setCell ⟨b, 0, none⟩ v0).setCell ⟨b, 1, none⟩ v1).setCell ⟨b, 2, none⟩ v2).setCell ⟨b, 3, none⟩ v3).setCell ⟨b, 4, none⟩ v4).setCell ⟨b, 5, none⟩ v5).setCell ⟨b, 6, none⟩ v6).setCell ⟨b, 7, none⟩ v7).setCell ⟨b, 8, none⟩ v8
theorem nine_cells {w : World} {b : Nat} {y0 y1 y2 y3 y4 y5 y6 y7 y8 : Value} {t : TypeId} (h : w.heap[b]? = some (.cells #[y0, y1, y2, y3, y4, y5, y6, y7, y8] t)) (v0 v1 v2 v3 v4 v5 v6 v7 v8 : Value) :
    (nine w b v0 v1 v2 v3 v4 v5 v6 v7 v8).heap[b]? = some (.cells #[v0, v1, v2, v3, v4, v5, v6, v7, v8] t) := by
  simp [nine, World.setCell, Array.getElem?_modify, h]
theorem nine_below {B : Nat} {w w' : World} {b : Nat} (v0 v1 v2 v3 v4 v5 v6 v7 v8 : Value) (C : Below B w w') (hb : B ≤ b) : Below B w (nine w' b v0 v1 v2 v3 v4 v5 v6 v7 v8) := by
  unfold nine
  exact ((((((((C.setCell (p := ⟨b, 0, none⟩) hb _).setCell (p := ⟨b, 1, none⟩) hb _).setCell (p := ⟨b, 2, none⟩) hb _).setCell (p := ⟨b, 3, none⟩) hb _).setCell (p := ⟨b, 4, none⟩) hb _).setCell (p := ⟨b, 5, none⟩) hb _).setCell (p := ⟨b, 6, none⟩) hb _).setCell (p := ⟨b, 7, none⟩) hb _).setCell (p := ⟨b, 8, none⟩) hb _
theorem nine_away {w : World} {b k : Nat} {v0 v1 v2 v3 v4 v5 v6 v7 v8 : Value} (h : k ≠ b) : (nine w b v0 v1 v2 v3 v4 v5 v6 v7 v8).heap[k]? = w.heap[k]? := by
  unfold nine
  rw [set_away h, set_away h, set_away h, set_away h, set_away h, set_away h, set_away h, set_away h, set_away h]
theorem t9_cells {w : World} {b : Nat} {y0 y1 y2 y3 y4 y5 y6 y7 y8 : Value} {t : TypeId} (h : w.heap[b]? = some (.cells #[y0, y1, y2, y3, y4, y5, y6, y7, y8] t)) :
    w.cell? ⟨b, 0, none⟩ = some y0 ∧ w.cell? ⟨b, 1, none⟩ = some y1 ∧ w.cell? ⟨b, 2, none⟩ = some y2 ∧ w.cell? ⟨b, 3, none⟩ = some y3 ∧ w.cell? ⟨b, 4, none⟩ = some y4 ∧ w.cell? ⟨b, 5, none⟩ = some y5 ∧ w.cell? ⟨b, 6, none⟩ = some y6 ∧ w.cell? ⟨b, 7, none⟩ = some y7 ∧ w.cell? ⟨b, 8, none⟩ = some y8 :=
  ⟨tblk_cell h rfl, tblk_cell h rfl, tblk_cell h rfl, tblk_cell h rfl, tblk_cell h rfl, tblk_cell h rfl, tblk_cell h rfl, tblk_cell h rfl, tblk_cell h rfl⟩
theorem t9_z {w : World} {b : Nat} {c : Array Value} {t : TypeId} (h : w.heap[b]? = some (.cells c t)) :
    w.frozen? ⟨b, 0, none⟩ = false ∧ w.frozen? ⟨b, 1, none⟩ = false ∧ w.frozen? ⟨b, 2, none⟩ = false ∧ w.frozen? ⟨b, 3, none⟩ = false ∧ w.frozen? ⟨b, 4, none⟩ = false ∧ w.frozen? ⟨b, 5, none⟩ = false ∧ w.frozen? ⟨b, 6, none⟩ = false ∧ w.frozen? ⟨b, 7, none⟩ = false ∧ w.frozen? ⟨b, 8, none⟩ = false :=
  ⟨lblk_z h, lblk_z h, lblk_z h, lblk_z h, lblk_z h, lblk_z h, lblk_z h, lblk_z h, lblk_z h⟩
theorem met_cells {w : World} {b : Nat} {y0 y1 y2 y3 y4 y5 y6 y7 y8 : Value} {t : TypeId} (h : w.heap[b]? = some (.cells #[y0, y1, y2, y3, y4, y5, y6, y7, y8] t)) (x y z : Value) :
    (((w.setCell ⟨b, 6, none⟩ x).setCell ⟨b, 7, none⟩ y).setCell ⟨b, 8, none⟩ z).heap[b]? = some (.cells #[y0, y1, y2, y3, y4, y5, x, y, z] t) := by
  simp [World.setCell, Array.getElem?_modify, h]
theorem met_away {w : World} {b k : Nat} {x y z : Value} (h : k ≠ b) : (((w.setCell ⟨b, 6, none⟩ x).setCell ⟨b, 7, none⟩ y).setCell ⟨b, 8, none⟩ z).heap[k]? = w.heap[k]? := by
  rw [set_away h, set_away h, set_away h]
theorem met_below {B : Nat} {w w' : World} {b : Nat} {x y z : Value} (C : Below B w w') (hb : B ≤ b) : Below B w (((w'.setCell ⟨b, 6, none⟩ x).setCell ⟨b, 7, none⟩ y).setCell ⟨b, 8, none⟩ z) :=
  ((C.setCell (p := ⟨b, 6, none⟩) hb _).setCell (p := ⟨b, 7, none⟩) hb _).setCell (p := ⟨b, 8, none⟩) hb _
theorem one9_0 {w : World} {b : Nat} {y0 y1 y2 y3 y4 y5 y6 y7 y8 : Value} {t : TypeId} (h : w.heap[b]? = some (.cells #[y0, y1, y2, y3, y4, y5, y6, y7, y8] t)) (v : Value) :
    (w.setCell ⟨b, 0, none⟩ v).heap[b]? = some (.cells #[v, y1, y2, y3, y4, y5, y6, y7, y8] t) := by simp [World.setCell, Array.getElem?_modify, h]
theorem one9_1 {w : World} {b : Nat} {y0 y1 y2 y3 y4 y5 y6 y7 y8 : Value} {t : TypeId} (h : w.heap[b]? = some (.cells #[y0, y1, y2, y3, y4, y5, y6, y7, y8] t)) (v : Value) :
    (w.setCell ⟨b, 1, none⟩ v).heap[b]? = some (.cells #[y0, v, y2, y3, y4, y5, y6, y7, y8] t) := by simp [World.setCell, Array.getElem?_modify, h]
theorem one9_2 {w : World} {b : Nat} {y0 y1 y2 y3 y4 y5 y6 y7 y8 : Value} {t : TypeId} (h : w.heap[b]? = some (.cells #[y0, y1, y2, y3, y4, y5, y6, y7, y8] t)) (v : Value) :
    (w.setCell ⟨b, 2, none⟩ v).heap[b]? = some (.cells #[y0, y1, v, y3, y4, y5, y6, y7, y8] t) := by simp [World.setCell, Array.getElem?_modify, h]
theorem one9_3 {w : World} {b : Nat} {y0 y1 y2 y3 y4 y5 y6 y7 y8 : Value} {t : TypeId} (h : w.heap[b]? = some (.cells #[y0, y1, y2, y3, y4, y5, y6, y7, y8] t)) (v : Value) :
    (w.setCell ⟨b, 3, none⟩ v).heap[b]? = some (.cells #[y0, y1, y2, v, y4, y5, y6, y7, y8] t) := by simp [World.setCell, Array.getElem?_modify, h]
theorem one9_4 {w : World} {b : Nat} {y0 y1 y2 y3 y4 y5 y6 y7 y8 : Value} {t : TypeId} (h : w.heap[b]? = some (.cells #[y0, y1, y2, y3, y4, y5, y6, y7, y8] t)) (v : Value) :
    (w.setCell ⟨b, 4, none⟩ v).heap[b]? = some (.cells #[y0, y1, y2, y3, v, y5, y6, y7, y8] t) := by simp [World.setCell, Array.getElem?_modify, h]
theorem one9_5 {w : World} {b : Nat} {y0 y1 y2 y3 y4 y5 y6 y7 y8 : Value} {t : TypeId} (h : w.heap[b]? = some (.cells #[y0, y1, y2, y3, y4, y5, y6, y7, y8] t)) (v : Value) :
    (w.setCell ⟨b, 5, none⟩ v).heap[b]? = some (.cells #[y0, y1, y2, y3, y4, v, y6, y7, y8] t) := by simp [World.setCell, Array.getElem?_modify, h]
set_option maxRecDepth 100000 in
set_option maxHeartbeats 4000000 in
theorem r18give_any (ai : Option Addr) (ni ci : Nat) (ao : Option Addr) (no co : Nat) (win : Int) (bz cl wt : Bool) (h q m n : Int) (w : World) (h0 : 0 ≤ h) (h1 : h ≤ m) (h2 : m ≤ 1099511627776) (g0 : 0 ≤ n) (g1 : n ≤ h) :
    Calls Tryz.prog 48 #[.agg (dv ai ni ci ao no co win bz cl wt h q m), .int .i64 n] w fun e w' => e = .returned (.agg (dv ai ni ci ao no co win bz cl wt (h - n) q m)) ∧ Below w.heap.size w w' := by
  unfold dv
  have e : gvL h n = n := by unfold gvL; omega
  have HG : Hid (∀ W, Calls Tryz.prog 67 #[.agg #[.int .i64 h, .int .i64 q, .int .i64 m], .int .i64 n] W fun e w' => e = .returned (.tuple #[.agg #[.int .i64 (h - n), .int .i64 q, .int .i64 m], .int .i64 n]) ∧ Below W.heap.size W w') := fun W => by
    have k := rgive_any m h q n W h0 h1 h2 (by rw [e]; exact g0) (by rw [e]; exact g1)
    rw [e] at k
    exact k
  have hs1 : (w.alloc (.cells #[.slice ai ni ci, .slice ao no co, .int .i64 win, .bool bz, .bool cl, .bool wt, .int .i64 h, .int .i64 q, .int .i64 m] 35)).heap.size = w.heap.size + 1 := by simp
  have hb0 : ((w.alloc (.cells #[.slice ai ni ci, .slice ao no co, .int .i64 win, .bool bz, .bool cl, .bool wt, .int .i64 h, .int .i64 q, .int .i64 m] 35)).alloc (.cells #[.slice none 0 0, .slice none 0 0, .int .i64 0, .bool false, .bool false, .bool false, .int .i64 0, .int .i64 0, .int .i64 0] 35)).heap[w.heap.size]? = some (.cells #[.slice ai ni ci, .slice ao no co, .int .i64 win, .bool bz, .bool cl, .bool wt, .int .i64 h, .int .i64 q, .int .i64 m] 35) := (Below.heap_alloc _ _ _ (by simp)).trans (tblk_new _ _)
  have hr0 : ((w.alloc (.cells #[.slice ai ni ci, .slice ao no co, .int .i64 win, .bool bz, .bool cl, .bool wt, .int .i64 h, .int .i64 q, .int .i64 m] 35)).alloc (.cells #[.slice none 0 0, .slice none 0 0, .int .i64 0, .bool false, .bool false, .bool false, .int .i64 0, .int .i64 0, .int .i64 0] 35)).heap[w.heap.size + 1]? = some (.cells #[.slice none 0 0, .slice none 0 0, .int .i64 0, .bool false, .bool false, .bool false, .int .i64 0, .int .i64 0, .int .i64 0] 35) := by have k := tblk_new (w.alloc (.cells #[.slice ai ni ci, .slice ao no co, .int .i64 win, .bool bz, .bool cl, .bool wt, .int .i64 h, .int .i64 q, .int .i64 m] 35)) (.cells #[.slice none 0 0, .slice none 0 0, .int .i64 0, .bool false, .bool false, .bool false, .int .i64 0, .int .i64 0, .int .i64 0] 35); rw [hs1] at k; exact k
  have HW0 : Hid (Below w.heap.size w ((w.alloc (.cells #[.slice ai ni ci, .slice ao no co, .int .i64 win, .bool bz, .bool cl, .bool wt, .int .i64 h, .int .i64 q, .int .i64 m] 35)).alloc (.cells #[.slice none 0 0, .slice none 0 0, .int .i64 0, .bool false, .bool false, .bool false, .int .i64 0, .int .i64 0, .int .i64 0] 35))) := ((Below.refl w.heap.size w).alloc (Nat.le_refl _) _).alloc (by rw [hs1]; omega) _
  have hs0 : ((w.alloc (.cells #[.slice ai ni ci, .slice ao no co, .int .i64 win, .bool bz, .bool cl, .bool wt, .int .i64 h, .int .i64 q, .int .i64 m] 35)).alloc (.cells #[.slice none 0 0, .slice none 0 0, .int .i64 0, .bool false, .bool false, .bool false, .int .i64 0, .int .i64 0, .int .i64 0] 35)).heap.size = w.heap.size + 2 := by simp
  have HS0 := hidC hs0
  have HB0 := hidC hb0
  have HR0 := hidC hr0
  clear hs1 hs0 hb0 hr0
  clear e
  go_enter Tryz.func48, Tryz.ntmps48
  go_wp2_with fail
  refine (HG.out _).mono ?_
  rintro e w1 ⟨rfl, B1⟩
  have hb1 := (B1.block _ (by rw [HS0.out]; omega)).trans HB0.out
  have hr1 := (B1.block _ (by rw [HS0.out]; omega)).trans HR0.out
  have HW1 : Hid (Below w.heap.size w w1) := HW0.out.trans (B1.mono (by rw [HS0.out]; omega))
  have hs1' : w.heap.size + 2 ≤ w1.heap.size := by have := B1.size; rw [HS0.out] at this; exact this
  have U2 : Below w1.heap.size w1 (w1.alloc (.cells #[.int .i64 (h - n), .int .i64 q, .int .i64 m] 29)) := (Below.refl _ _).alloc (Nat.le_refl _) _
  have hb2 := tblk_below hb1 U2
  have hr2 := tblk_below hr1 U2
  have hm2 := tblk_new w1 (.cells #[.int .i64 (h - n), .int .i64 q, .int .i64 m] 29)
  have HW2 : Hid (Below w.heap.size w (w1.alloc (.cells #[.int .i64 (h - n), .int .i64 q, .int .i64 m] 29))) := HW1.out.trans (U2.mono HW1.out.size)
  have hne : w1.heap.size ≠ w.heap.size := by omega
  clear hs1'
  clear HB0 HR0 HW0 HS0 B1 hb1 hr1 HW1 U2 HG
  have hb3 := met_cells hb2 (.int .i64 (h - n)) (.int .i64 q) (.int .i64 m)
  have hr3 := (met_away (w := w1.alloc (.cells #[.int .i64 (h - n), .int .i64 q, .int .i64 m] 29)) (b := w.heap.size) (x := .int .i64 (h - n)) (y := .int .i64 q) (z := .int .i64 m) (show w.heap.size + 1 ≠ w.heap.size by omega)).trans hr2
  have HW : Hid (Below w.heap.size w ((((w1.alloc (.cells #[.int .i64 (h - n), .int .i64 q, .int .i64 m] 29)).setCell ⟨w.heap.size, 6, none⟩ (.int .i64 (h - n))).setCell ⟨w.heap.size, 7, none⟩ (.int .i64 q)).setCell ⟨w.heap.size, 8, none⟩ (.int .i64 m))) := met_below HW2.out (Nat.le_refl _)
  have a6 := tblk_cell (i := 6) hb2 rfl
  have az6 := lblk_z (i := 6) hb2
  have a7 := tblk_cell (i := 7) hb2 rfl
  have az7 := lblk_z (i := 7) hb2
  have a8 := tblk_cell (i := 8) hb2 rfl
  have az8 := lblk_z (i := 8) hb2
  have y0 := tblk_cell (i := 0) hm2 rfl
  have y1 := tblk_cell (i := 1) hm2 rfl
  have y2 := tblk_cell (i := 2) hm2 rfl
  obtain ⟨e0, e1, e2, e3, e4, e5, e6, e7, e8⟩ := t9_cells hb3
  obtain ⟨c0, c1, c2, c3, c4, c5, c6, c7, c8⟩ := t9_cells hr3
  obtain ⟨cz0, cz1, cz2, cz3, cz4, cz5, cz6, cz7, cz8⟩ := t9_z hr3
  have HRB := hidC (nine_cells hr3 (.slice ai ni ci) (.slice ao no co) (.int .i64 win) (.bool bz) (.bool cl) (.bool wt) (.int .i64 (h - n)) (.int .i64 q) (.int .i64 m))
  have HEB := hidC (nine_below (.slice ai ni ci) (.slice ao no co) (.int .i64 win) (.bool bz) (.bool cl) (.bool wt) (.int .i64 (h - n)) (.int .i64 q) (.int .i64 m) HW.out (show w.heap.size ≤ (w.heap.size + 1) by first | exact Nat.le_refl _ | exact Nat.le_succ _ | omega))
  have hrb := HRB.out
  obtain ⟨r0, r1, r2, r3, r4, r5, r6, r7, r8⟩ := t9_cells hrb
  unfold nine at r0 r1 r2 r3 r4 r5 r6 r7 r8 HEB
  clear hrb HRB hb2 hr2 hm2 hb3 hr3 HW2
  go_wp2
  refine bodyPost_ret (v := .agg #[.slice ai ni ci, .slice ao no co, .int .i64 win, .bool bz, .bool cl, .bool wt, .int .i64 (h - n), .int .i64 q, .int .i64 m]) (by simp [results, Tryz.results48, go_sem, r0, r1, r2, r3, r4, r5, r6, r7, r8]) rfl ?_
  exact ⟨rfl, HEB.out⟩
set_option maxRecDepth 100000 in
set_option maxHeartbeats 4000000 in
theorem r18shut_yes (ai : Option Addr) (ni ci : Nat) (ao : Option Addr) (no co : Nat) (win : Int) (bz wt : Bool) (h q m : Int) (w : World) :
    Calls Tryz.prog 47 #[.agg (dv ai ni ci ao no co win bz true wt h q m)] w fun e w' => e = .returned (.agg (dv ai ni ci ao no co win bz true wt h q m)) ∧ Below w.heap.size w w' := by
  unfold dv
  have hs1 : (w.alloc (.cells #[.slice ai ni ci, .slice ao no co, .int .i64 win, .bool bz, .bool true, .bool wt, .int .i64 h, .int .i64 q, .int .i64 m] 35)).heap.size = w.heap.size + 1 := by simp
  have hb0 : ((w.alloc (.cells #[.slice ai ni ci, .slice ao no co, .int .i64 win, .bool bz, .bool true, .bool wt, .int .i64 h, .int .i64 q, .int .i64 m] 35)).alloc (.cells #[.slice none 0 0, .slice none 0 0, .int .i64 0, .bool false, .bool false, .bool false, .int .i64 0, .int .i64 0, .int .i64 0] 35)).heap[w.heap.size]? = some (.cells #[.slice ai ni ci, .slice ao no co, .int .i64 win, .bool bz, .bool true, .bool wt, .int .i64 h, .int .i64 q, .int .i64 m] 35) := (Below.heap_alloc _ _ _ (by simp)).trans (tblk_new _ _)
  have hr0 : ((w.alloc (.cells #[.slice ai ni ci, .slice ao no co, .int .i64 win, .bool bz, .bool true, .bool wt, .int .i64 h, .int .i64 q, .int .i64 m] 35)).alloc (.cells #[.slice none 0 0, .slice none 0 0, .int .i64 0, .bool false, .bool false, .bool false, .int .i64 0, .int .i64 0, .int .i64 0] 35)).heap[w.heap.size + 1]? = some (.cells #[.slice none 0 0, .slice none 0 0, .int .i64 0, .bool false, .bool false, .bool false, .int .i64 0, .int .i64 0, .int .i64 0] 35) := by have k := tblk_new (w.alloc (.cells #[.slice ai ni ci, .slice ao no co, .int .i64 win, .bool bz, .bool true, .bool wt, .int .i64 h, .int .i64 q, .int .i64 m] 35)) (.cells #[.slice none 0 0, .slice none 0 0, .int .i64 0, .bool false, .bool false, .bool false, .int .i64 0, .int .i64 0, .int .i64 0] 35); rw [hs1] at k; exact k
  have HW0 : Hid (Below w.heap.size w ((w.alloc (.cells #[.slice ai ni ci, .slice ao no co, .int .i64 win, .bool bz, .bool true, .bool wt, .int .i64 h, .int .i64 q, .int .i64 m] 35)).alloc (.cells #[.slice none 0 0, .slice none 0 0, .int .i64 0, .bool false, .bool false, .bool false, .int .i64 0, .int .i64 0, .int .i64 0] 35))) := ((Below.refl w.heap.size w).alloc (Nat.le_refl _) _).alloc (by rw [hs1]; omega) _
  have hs0 : ((w.alloc (.cells #[.slice ai ni ci, .slice ao no co, .int .i64 win, .bool bz, .bool true, .bool wt, .int .i64 h, .int .i64 q, .int .i64 m] 35)).alloc (.cells #[.slice none 0 0, .slice none 0 0, .int .i64 0, .bool false, .bool false, .bool false, .int .i64 0, .int .i64 0, .int .i64 0] 35)).heap.size = w.heap.size + 2 := by simp
  have HS0 := hidC hs0
  have HB0 := hidC hb0
  have HR0 := hidC hr0
  clear hs1 hs0 hb0 hr0
  go_enter Tryz.func47, Tryz.ntmps47
  go_upto_region 1 with fail
  have hb := HB0.out
  have hr := HR0.out
  have HW := HW0
  have hws := Nat.le_of_eq HS0.out.symm
  clear HB0 HR0 HW0 HS0
  generalize ((w.alloc (.cells #[.slice ai ni ci, .slice ao no co, .int .i64 win, .bool bz, .bool true, .bool wt, .int .i64 h, .int .i64 q, .int .i64 m] 35)).alloc (.cells #[.slice none 0 0, .slice none 0 0, .int .i64 0, .bool false, .bool false, .bool false, .int .i64 0, .int .i64 0, .int .i64 0] 35)) = w1 at *
  have a4 := tblk_cell (i := 4) hb rfl
  have az4 := lblk_z (i := 4) hb
  obtain ⟨e0, e1, e2, e3, e4, e5, e6, e7, e8⟩ := t9_cells hb
  obtain ⟨c0, c1, c2, c3, c4, c5, c6, c7, c8⟩ := t9_cells hr
  obtain ⟨cz0, cz1, cz2, cz3, cz4, cz5, cz6, cz7, cz8⟩ := t9_z hr
  have HRB := hidC (nine_cells hr (.slice ai ni ci) (.slice ao no co) (.int .i64 win) (.bool bz) (.bool true) (.bool wt) (.int .i64 h) (.int .i64 q) (.int .i64 m))
  have HEB := hidC (nine_below (.slice ai ni ci) (.slice ao no co) (.int .i64 win) (.bool bz) (.bool true) (.bool wt) (.int .i64 h) (.int .i64 q) (.int .i64 m) HW.out (show w.heap.size ≤ (w.heap.size + 1) by first | exact Nat.le_refl _ | exact Nat.le_succ _ | omega))
  have hrb := HRB.out
  obtain ⟨r0, r1, r2, r3, r4, r5, r6, r7, r8⟩ := t9_cells hrb
  unfold nine at r0 r1 r2 r3 r4 r5 r6 r7 r8 HEB
  clear hrb HRB hb hr HW hws 
  go_wp2
  refine bodyPost_ret (v := .agg #[.slice ai ni ci, .slice ao no co, .int .i64 win, .bool bz, .bool true, .bool wt, .int .i64 h, .int .i64 q, .int .i64 m]) (by simp [results, Tryz.results47, go_sem, r0, r1, r2, r3, r4, r5, r6, r7, r8]) rfl ?_
  exact ⟨rfl, HEB.out⟩
set_option maxRecDepth 100000 in
set_option maxHeartbeats 4000000 in
theorem r18shut_no (ai : Option Addr) (ni ci : Nat) (ao : Option Addr) (no co : Nat) (win : Int) (bz wt : Bool) (h q m : Int) (w : World) (h0 : 0 ≤ h) (h1 : h ≤ m) (h2 : m ≤ 1099511627776) (g1 : (ni : Int) ≤ h) :
    Calls Tryz.prog 47 #[.agg (dv ai ni ci ao no co win bz false wt h q m)] w fun e w' => ∃ a, e = .returned (.agg (dv a 0 0 ao no co win bz true wt (h - ni) q m)) ∧ Below w.heap.size w w' := by
  unfold dv
  have hs1 : (w.alloc (.cells #[.slice ai ni ci, .slice ao no co, .int .i64 win, .bool bz, .bool false, .bool wt, .int .i64 h, .int .i64 q, .int .i64 m] 35)).heap.size = w.heap.size + 1 := by simp
  have hb0 : ((w.alloc (.cells #[.slice ai ni ci, .slice ao no co, .int .i64 win, .bool bz, .bool false, .bool wt, .int .i64 h, .int .i64 q, .int .i64 m] 35)).alloc (.cells #[.slice none 0 0, .slice none 0 0, .int .i64 0, .bool false, .bool false, .bool false, .int .i64 0, .int .i64 0, .int .i64 0] 35)).heap[w.heap.size]? = some (.cells #[.slice ai ni ci, .slice ao no co, .int .i64 win, .bool bz, .bool false, .bool wt, .int .i64 h, .int .i64 q, .int .i64 m] 35) := (Below.heap_alloc _ _ _ (by simp)).trans (tblk_new _ _)
  have hr0 : ((w.alloc (.cells #[.slice ai ni ci, .slice ao no co, .int .i64 win, .bool bz, .bool false, .bool wt, .int .i64 h, .int .i64 q, .int .i64 m] 35)).alloc (.cells #[.slice none 0 0, .slice none 0 0, .int .i64 0, .bool false, .bool false, .bool false, .int .i64 0, .int .i64 0, .int .i64 0] 35)).heap[w.heap.size + 1]? = some (.cells #[.slice none 0 0, .slice none 0 0, .int .i64 0, .bool false, .bool false, .bool false, .int .i64 0, .int .i64 0, .int .i64 0] 35) := by have k := tblk_new (w.alloc (.cells #[.slice ai ni ci, .slice ao no co, .int .i64 win, .bool bz, .bool false, .bool wt, .int .i64 h, .int .i64 q, .int .i64 m] 35)) (.cells #[.slice none 0 0, .slice none 0 0, .int .i64 0, .bool false, .bool false, .bool false, .int .i64 0, .int .i64 0, .int .i64 0] 35); rw [hs1] at k; exact k
  have HW0 : Hid (Below w.heap.size w ((w.alloc (.cells #[.slice ai ni ci, .slice ao no co, .int .i64 win, .bool bz, .bool false, .bool wt, .int .i64 h, .int .i64 q, .int .i64 m] 35)).alloc (.cells #[.slice none 0 0, .slice none 0 0, .int .i64 0, .bool false, .bool false, .bool false, .int .i64 0, .int .i64 0, .int .i64 0] 35))) := ((Below.refl w.heap.size w).alloc (Nat.le_refl _) _).alloc (by rw [hs1]; omega) _
  have hs0 : ((w.alloc (.cells #[.slice ai ni ci, .slice ao no co, .int .i64 win, .bool bz, .bool false, .bool wt, .int .i64 h, .int .i64 q, .int .i64 m] 35)).alloc (.cells #[.slice none 0 0, .slice none 0 0, .int .i64 0, .bool false, .bool false, .bool false, .int .i64 0, .int .i64 0, .int .i64 0] 35)).heap.size = w.heap.size + 2 := by simp
  have HS0 := hidC hs0
  have HB0 := hidC hb0
  have HR0 := hidC hr0
  clear hs1 hs0 hb0 hr0
  have HG := fun W : World => r18give_any ai ni ci ao no co win bz false wt h q m ni W h0 h1 h2 (by omega) g1
  unfold dv at HG
  have HG := hidC HG
  go_enter Tryz.func47, Tryz.ntmps47
  go_wp2_with fail
  refine (HG.out _).mono ?_
  rintro e w1 ⟨rfl, B⟩
  have hb := (B.block _ (by rw [HS0.out]; omega)).trans HB0.out
  have hr := (B.block _ (by rw [HS0.out]; omega)).trans HR0.out
  have HW : Hid (Below w.heap.size w w1) := HW0.out.trans (B.mono (by rw [HS0.out]; omega))
  have hws : w.heap.size + 2 ≤ w1.heap.size := by have := B.size; rw [HS0.out] at this; exact this
  clear B HB0 HR0 HW0 HS0
  obtain ⟨a0, a1, a2, a3, a4, a5, a6, a7, a8⟩ := t9_cells hb
  obtain ⟨az0, az1, az2, az3, az4, az5, az6, az7, az8⟩ := t9_z hb
  have hb2 := nine_cells hb (.slice ai ni ci) (.slice ao no co) (.int .i64 win) (.bool bz) (.bool false) (.bool wt) (.int .i64 (h - ni)) (.int .i64 q) (.int .i64 m)
  have hr2 : (nine w1 w.heap.size (.slice ai ni ci) (.slice ao no co) (.int .i64 win) (.bool bz) (.bool false) (.bool wt) (.int .i64 (h - ni)) (.int .i64 q) (.int .i64 m)).heap[w.heap.size + 1]? = _ := (nine_away (show w.heap.size + 1 ≠ w.heap.size by omega)).trans hr
  have HW2 := hidC (nine_below (.slice ai ni ci) (.slice ao no co) (.int .i64 win) (.bool bz) (.bool false) (.bool wt) (.int .i64 (h - ni)) (.int .i64 q) (.int .i64 m) HW.out (Nat.le_refl _))
  have hw2 : (nine w1 w.heap.size (.slice ai ni ci) (.slice ao no co) (.int .i64 win) (.bool bz) (.bool false) (.bool wt) (.int .i64 (h - ni)) (.int .i64 q) (.int .i64 m)).heap.size = w1.heap.size := by unfold nine; simp [World.setCell]
  unfold nine at hb2 hr2 HW2 hw2
  have hws2 : w.heap.size + 2 ≤ (((((((((w1.setCell ⟨w.heap.size, 0, none⟩ (.slice ai ni ci)).setCell ⟨w.heap.size, 1, none⟩ (.slice ao no co)).setCell ⟨w.heap.size, 2, none⟩ (.int .i64 win)).setCell ⟨w.heap.size, 3, none⟩ (.bool bz)).setCell ⟨w.heap.size, 4, none⟩ (.bool false)).setCell ⟨w.heap.size, 5, none⟩ (.bool wt)).setCell ⟨w.heap.size, 6, none⟩ (.int .i64 (h - ni))).setCell ⟨w.heap.size, 7, none⟩ (.int .i64 q)).setCell ⟨w.heap.size, 8, none⟩ (.int .i64 m)).heap.size := by rw [hw2]; exact hws
  clear hw2 hws
  go_upto_region 4 with fail
  generalize (((((((((w1.setCell ⟨w.heap.size, 0, none⟩ (.slice ai ni ci)).setCell ⟨w.heap.size, 1, none⟩ (.slice ao no co)).setCell ⟨w.heap.size, 2, none⟩ (.int .i64 win)).setCell ⟨w.heap.size, 3, none⟩ (.bool bz)).setCell ⟨w.heap.size, 4, none⟩ (.bool false)).setCell ⟨w.heap.size, 5, none⟩ (.bool wt)).setCell ⟨w.heap.size, 6, none⟩ (.int .i64 (h - ni))).setCell ⟨w.heap.size, 7, none⟩ (.int .i64 q)).setCell ⟨w.heap.size, 8, none⟩ (.int .i64 m)) = w2 at *
  clear a0 az0 a1 az1 a2 az2 a3 az3 a4 az4 a5 az5 a6 az6 a7 az7 a8 az8 hb hr HW
  have hb := hb2
  have hr := hr2
  have HW := HW2
  have hws := hws2
  clear hb2 hr2 HW2 hws2
  have U : Below w2.heap.size w2 (w2.alloc (.cells #[] 5)) := (Below.refl _ _).alloc (Nat.le_refl _) _
  have hnew := tblk_new w2 (.cells #[] 5)
  have hb := tblk_below hb U
  have hr := tblk_below hr U
  have HW : Hid (Below w.heap.size w (w2.alloc (.cells #[] 5))) := HW.out.trans (U.mono HW.out.size)
  have hwn : w.heap.size + 2 ≤ (w2.alloc (.cells #[] 5)).heap.size := Nat.le_trans hws U.size
  clear U hws
  have hws := hwn
  clear hwn
  have a0 := tblk_cell (i := 0) hb rfl
  have az0 := lblk_z (i := 0) hb
  have hb2 := one9_0 hb (.slice (some ⟨w2.heap.size, 0, none⟩) 0 0)
  have hr2 : ((w2.alloc (.cells #[] 5)).setCell ⟨w.heap.size, 0, none⟩ (.slice (some ⟨w2.heap.size, 0, none⟩) 0 0)).heap[w.heap.size + 1]? = _ := (set_away (i := 0) (v := .slice (some ⟨w2.heap.size, 0, none⟩) 0 0) (show ¬ w.heap.size + 1 = w.heap.size by omega)).trans hr
  have HW2 : Hid (Below w.heap.size w ((w2.alloc (.cells #[] 5)).setCell ⟨w.heap.size, 0, none⟩ (.slice (some ⟨w2.heap.size, 0, none⟩) 0 0))) := HW.out.setCell (p := ⟨w.heap.size, 0, none⟩) (Nat.le_refl _) _
  have hw2 : ((w2.alloc (.cells #[] 5)).setCell ⟨w.heap.size, 0, none⟩ (.slice (some ⟨w2.heap.size, 0, none⟩) 0 0)).heap.size = (w2.alloc (.cells #[] 5)).heap.size := by simp [World.setCell]
  have hws2 : w.heap.size + 2 ≤ ((w2.alloc (.cells #[] 5)).setCell ⟨w.heap.size, 0, none⟩ (.slice (some ⟨w2.heap.size, 0, none⟩) 0 0)).heap.size := by rw [hw2]; exact hws
  clear hw2 hws
  go_upto_region 5 with fail
  generalize ((w2.alloc (.cells #[] 5)).setCell ⟨w.heap.size, 0, none⟩ (.slice (some ⟨w2.heap.size, 0, none⟩) 0 0)) = w4 at *
  clear a0 az0 hb hr HW
  have hb := hb2
  have hr := hr2
  have HW := HW2
  have hws := hws2
  clear hb2 hr2 HW2 hws2
  have a4 := tblk_cell (i := 4) hb rfl
  have az4 := lblk_z (i := 4) hb
  have hb2 := one9_4 hb (.bool true)
  have hr2 : (w4.setCell ⟨w.heap.size, 4, none⟩ (.bool true)).heap[w.heap.size + 1]? = _ := (set_away (i := 4) (v := .bool true) (show ¬ w.heap.size + 1 = w.heap.size by omega)).trans hr
  have HW2 : Hid (Below w.heap.size w (w4.setCell ⟨w.heap.size, 4, none⟩ (.bool true))) := HW.out.setCell (p := ⟨w.heap.size, 4, none⟩) (Nat.le_refl _) _
  have hw2 : (w4.setCell ⟨w.heap.size, 4, none⟩ (.bool true)).heap.size = w4.heap.size := by simp [World.setCell]
  have hws2 : w.heap.size + 2 ≤ (w4.setCell ⟨w.heap.size, 4, none⟩ (.bool true)).heap.size := by rw [hw2]; exact hws
  clear hw2 hws
  clear hb hr HW
  have hb := hb2
  have hr := hr2
  have HW := HW2
  have hws := hws2
  clear hb2 hr2 HW2 hws2
  obtain ⟨e0, e1, e2, e3, e4, e5, e6, e7, e8⟩ := t9_cells hb
  obtain ⟨c0, c1, c2, c3, c4, c5, c6, c7, c8⟩ := t9_cells hr
  obtain ⟨cz0, cz1, cz2, cz3, cz4, cz5, cz6, cz7, cz8⟩ := t9_z hr
  have HRB := hidC (nine_cells hr (.slice (some ⟨w2.heap.size, 0, none⟩) 0 0) (.slice ao no co) (.int .i64 win) (.bool bz) (.bool true) (.bool wt) (.int .i64 (h - ni)) (.int .i64 q) (.int .i64 m))
  have HEB := hidC (nine_below (.slice (some ⟨w2.heap.size, 0, none⟩) 0 0) (.slice ao no co) (.int .i64 win) (.bool bz) (.bool true) (.bool wt) (.int .i64 (h - ni)) (.int .i64 q) (.int .i64 m) HW.out (show w.heap.size ≤ (w.heap.size + 1) by first | exact Nat.le_refl _ | exact Nat.le_succ _ | omega))
  have hrb := HRB.out
  obtain ⟨r0, r1, r2, r3, r4, r5, r6, r7, r8⟩ := t9_cells hrb
  unfold nine at r0 r1 r2 r3 r4 r5 r6 r7 r8 HEB
  clear hrb HRB hb hr HW hws hnew HG
  go_wp2
  refine bodyPost_ret (v := .agg #[.slice (some ⟨w2.heap.size, 0, none⟩) 0 0, .slice ao no co, .int .i64 win, .bool bz, .bool true, .bool wt, .int .i64 (h - ni), .int .i64 q, .int .i64 m]) (by simp [results, Tryz.results47, go_sem, r0, r1, r2, r3, r4, r5, r6, r7, r8]) rfl ?_
  exact ⟨_, rfl, HEB.out⟩
set_option maxRecDepth 100000 in
set_option maxHeartbeats 4000000 in
theorem r18note_no (ai : Option Addr) (ni ci : Nat) (ao : Option Addr) (no co : Nat) (win : Int) (bz cl wt : Bool) (h q m : Int) (ab : Option Addr) (nb cb : Nat) (w : World) (h0 : 0 ≤ h) (h1 : h ≤ m) (h2 : m ≤ 1099511627776) (hn : ¬ h + nb ≤ m) :
    Calls Tryz.prog 22 #[.agg (dv ai ni ci ao no co win bz cl wt h q m), .slice ab nb cb] w fun e w' => e = .returned (.tuple #[.agg (dv ai ni ci ao no co win bz cl wt h q m), .bool false]) ∧ Below w.heap.size w w' := by
  unfold dv
  have hs1 : (w.alloc (.cells #[.slice ai ni ci, .slice ao no co, .int .i64 win, .bool bz, .bool cl, .bool wt, .int .i64 h, .int .i64 q, .int .i64 m] 35)).heap.size = w.heap.size + 1 := by simp
  have hb0 : ((w.alloc (.cells #[.slice ai ni ci, .slice ao no co, .int .i64 win, .bool bz, .bool cl, .bool wt, .int .i64 h, .int .i64 q, .int .i64 m] 35)).alloc (.cells #[.slice none 0 0, .slice none 0 0, .int .i64 0, .bool false, .bool false, .bool false, .int .i64 0, .int .i64 0, .int .i64 0] 35)).heap[w.heap.size]? = some (.cells #[.slice ai ni ci, .slice ao no co, .int .i64 win, .bool bz, .bool cl, .bool wt, .int .i64 h, .int .i64 q, .int .i64 m] 35) := (Below.heap_alloc _ _ _ (by simp)).trans (tblk_new _ _)
  have hr0 : ((w.alloc (.cells #[.slice ai ni ci, .slice ao no co, .int .i64 win, .bool bz, .bool cl, .bool wt, .int .i64 h, .int .i64 q, .int .i64 m] 35)).alloc (.cells #[.slice none 0 0, .slice none 0 0, .int .i64 0, .bool false, .bool false, .bool false, .int .i64 0, .int .i64 0, .int .i64 0] 35)).heap[w.heap.size + 1]? = some (.cells #[.slice none 0 0, .slice none 0 0, .int .i64 0, .bool false, .bool false, .bool false, .int .i64 0, .int .i64 0, .int .i64 0] 35) := by have k := tblk_new (w.alloc (.cells #[.slice ai ni ci, .slice ao no co, .int .i64 win, .bool bz, .bool cl, .bool wt, .int .i64 h, .int .i64 q, .int .i64 m] 35)) (.cells #[.slice none 0 0, .slice none 0 0, .int .i64 0, .bool false, .bool false, .bool false, .int .i64 0, .int .i64 0, .int .i64 0] 35); rw [hs1] at k; exact k
  have HW0 : Hid (Below w.heap.size w ((w.alloc (.cells #[.slice ai ni ci, .slice ao no co, .int .i64 win, .bool bz, .bool cl, .bool wt, .int .i64 h, .int .i64 q, .int .i64 m] 35)).alloc (.cells #[.slice none 0 0, .slice none 0 0, .int .i64 0, .bool false, .bool false, .bool false, .int .i64 0, .int .i64 0, .int .i64 0] 35))) := ((Below.refl w.heap.size w).alloc (Nat.le_refl _) _).alloc (by rw [hs1]; omega) _
  have hs0 : ((w.alloc (.cells #[.slice ai ni ci, .slice ao no co, .int .i64 win, .bool bz, .bool cl, .bool wt, .int .i64 h, .int .i64 q, .int .i64 m] 35)).alloc (.cells #[.slice none 0 0, .slice none 0 0, .int .i64 0, .bool false, .bool false, .bool false, .int .i64 0, .int .i64 0, .int .i64 0] 35)).heap.size = w.heap.size + 2 := by simp
  have HS0 := hidC hs0
  have HB0 := hidC hb0
  have HR0 := hidC hr0
  clear hs1 hs0 hb0 hr0
  have HT : Hid (∀ W, Calls Tryz.prog 43 #[.agg #[.int .i64 h, .int .i64 q, .int .i64 m], .int .i64 nb] W fun e w' => e = .returned (.tuple #[.agg #[.int .i64 h, .int .i64 q, .int .i64 m], .bool false]) ∧ Below W.heap.size W w') := fun W => by
    have k := rtake_any m h q nb W h0 h1 h2
    obtain ⟨e1, e2⟩ := tk_no (m := m) (h := h) (n := (nb : Int)) (Or.inr (by omega))
    have e3 : rpk m h q nb = q := by unfold rpk; rw [if_neg (by omega)]
    rw [e3] at k
    rw [e1, e2] at k
    exact k
  go_enter Tryz.func22, Tryz.ntmps22
  go_wp2_with fail
  refine (HT.out _).mono ?_
  rintro e w1 ⟨rfl, B⟩
  have hb := (B.block _ (by rw [HS0.out]; omega)).trans HB0.out
  have hr := (B.block _ (by rw [HS0.out]; omega)).trans HR0.out
  have HW : Hid (Below w.heap.size w w1) := HW0.out.trans (B.mono (by rw [HS0.out]; omega))
  have hws : w.heap.size + 2 ≤ w1.heap.size := by have := B.size; rw [HS0.out] at this; exact this
  clear B HB0 HR0 HW0 HS0
  have U : Below w1.heap.size w1 (w1.alloc (.cells #[.int .i64 h, .int .i64 q, .int .i64 m] 29)) := (Below.refl _ _).alloc (Nat.le_refl _) _
  have hnew := tblk_new w1 (.cells #[.int .i64 h, .int .i64 q, .int .i64 m] 29)
  have hb := tblk_below hb U
  have hr := tblk_below hr U
  have HW : Hid (Below w.heap.size w (w1.alloc (.cells #[.int .i64 h, .int .i64 q, .int .i64 m] 29))) := HW.out.trans (U.mono HW.out.size)
  have hwn : w.heap.size + 2 ≤ (w1.alloc (.cells #[.int .i64 h, .int .i64 q, .int .i64 m] 29)).heap.size := Nat.le_trans hws U.size
  clear U hws
  have hws := hwn
  clear hwn
  go_upto_region 2 with fail
  generalize (w1.alloc (.cells #[.int .i64 h, .int .i64 q, .int .i64 m] 29)) = w2 at *
  have y0 := tblk_cell (i := 0) hnew rfl
  have y1 := tblk_cell (i := 1) hnew rfl
  have y2 := tblk_cell (i := 2) hnew rfl
  obtain ⟨e0, e1, e2, e3, e4, e5, e6, e7, e8⟩ := t9_cells hb
  obtain ⟨c0, c1, c2, c3, c4, c5, c6, c7, c8⟩ := t9_cells hr
  obtain ⟨cz0, cz1, cz2, cz3, cz4, cz5, cz6, cz7, cz8⟩ := t9_z hr
  have HRB := hidC (nine_cells hr (.slice ai ni ci) (.slice ao no co) (.int .i64 win) (.bool bz) (.bool cl) (.bool wt) (.int .i64 h) (.int .i64 q) (.int .i64 m))
  have HEB := hidC (nine_below (.slice ai ni ci) (.slice ao no co) (.int .i64 win) (.bool bz) (.bool cl) (.bool wt) (.int .i64 h) (.int .i64 q) (.int .i64 m) HW.out (show w.heap.size ≤ (w.heap.size + 1) by first | exact Nat.le_refl _ | exact Nat.le_succ _ | omega))
  have hrb := HRB.out
  obtain ⟨r0, r1, r2, r3, r4, r5, r6, r7, r8⟩ := t9_cells hrb
  unfold nine at r0 r1 r2 r3 r4 r5 r6 r7 r8 HEB
  clear hrb HRB hb hr HW hws hnew y0 y1 y2 HT
  go_wp2
  refine bodyPost_ret (v := .tuple #[.agg #[.slice ai ni ci, .slice ao no co, .int .i64 win, .bool bz, .bool cl, .bool wt, .int .i64 h, .int .i64 q, .int .i64 m], .bool false]) (by simp [results, Tryz.results22, go_sem, r0, r1, r2, r3, r4, r5, r6, r7, r8]) rfl ?_
  exact ⟨rfl, HEB.out⟩
set_option maxRecDepth 100000 in
set_option maxHeartbeats 4000000 in
theorem r18note_yes (ai : Option Addr) (ni ci : Nat) (ao : Option Addr) (no co : Nat) (win : Int) (bz cl wt : Bool) (h q m : Int) (ab : Option Addr) (nb cb : Nat) (w : World) (h0 : 0 ≤ h) (h1 : h ≤ m) (h2 : m ≤ 1099511627776) (hn : h + nb ≤ m) (X Y : List UInt8) (k1 k2 : Nat) (hX : Src w k1 (.slice ao no co) X) (q1 : 0 < X.length → k1 < w.heap.size) (hY : Src w k2 (.slice ab nb cb) Y) (q2 : 0 < Y.length → k2 < w.heap.size) (hl : X.length + Y.length ≤ 1099511627776) :
    Calls Tryz.prog 22 #[.agg (dv ai ni ci ao no co win bz cl wt h q m), .slice ab nb cb] w fun e w' => ∃ a c q', e = .returned (.tuple #[.agg (dv ai ni ci a (no + nb) c win bz cl wt (h + nb) q' m), .bool true]) ∧ Own w.heap.size w' (.slice a (no + nb) c) (X ++ Y) ∧ Below w.heap.size w w' := by
  unfold dv
  have hs1 : (w.alloc (.cells #[.slice ai ni ci, .slice ao no co, .int .i64 win, .bool bz, .bool cl, .bool wt, .int .i64 h, .int .i64 q, .int .i64 m] 35)).heap.size = w.heap.size + 1 := by simp
  have hb0 : ((w.alloc (.cells #[.slice ai ni ci, .slice ao no co, .int .i64 win, .bool bz, .bool cl, .bool wt, .int .i64 h, .int .i64 q, .int .i64 m] 35)).alloc (.cells #[.slice none 0 0, .slice none 0 0, .int .i64 0, .bool false, .bool false, .bool false, .int .i64 0, .int .i64 0, .int .i64 0] 35)).heap[w.heap.size]? = some (.cells #[.slice ai ni ci, .slice ao no co, .int .i64 win, .bool bz, .bool cl, .bool wt, .int .i64 h, .int .i64 q, .int .i64 m] 35) := (Below.heap_alloc _ _ _ (by simp)).trans (tblk_new _ _)
  have hr0 : ((w.alloc (.cells #[.slice ai ni ci, .slice ao no co, .int .i64 win, .bool bz, .bool cl, .bool wt, .int .i64 h, .int .i64 q, .int .i64 m] 35)).alloc (.cells #[.slice none 0 0, .slice none 0 0, .int .i64 0, .bool false, .bool false, .bool false, .int .i64 0, .int .i64 0, .int .i64 0] 35)).heap[w.heap.size + 1]? = some (.cells #[.slice none 0 0, .slice none 0 0, .int .i64 0, .bool false, .bool false, .bool false, .int .i64 0, .int .i64 0, .int .i64 0] 35) := by have k := tblk_new (w.alloc (.cells #[.slice ai ni ci, .slice ao no co, .int .i64 win, .bool bz, .bool cl, .bool wt, .int .i64 h, .int .i64 q, .int .i64 m] 35)) (.cells #[.slice none 0 0, .slice none 0 0, .int .i64 0, .bool false, .bool false, .bool false, .int .i64 0, .int .i64 0, .int .i64 0] 35); rw [hs1] at k; exact k
  have HW0 : Hid (Below w.heap.size w ((w.alloc (.cells #[.slice ai ni ci, .slice ao no co, .int .i64 win, .bool bz, .bool cl, .bool wt, .int .i64 h, .int .i64 q, .int .i64 m] 35)).alloc (.cells #[.slice none 0 0, .slice none 0 0, .int .i64 0, .bool false, .bool false, .bool false, .int .i64 0, .int .i64 0, .int .i64 0] 35))) := ((Below.refl w.heap.size w).alloc (Nat.le_refl _) _).alloc (by rw [hs1]; omega) _
  have hs0 : ((w.alloc (.cells #[.slice ai ni ci, .slice ao no co, .int .i64 win, .bool bz, .bool cl, .bool wt, .int .i64 h, .int .i64 q, .int .i64 m] 35)).alloc (.cells #[.slice none 0 0, .slice none 0 0, .int .i64 0, .bool false, .bool false, .bool false, .int .i64 0, .int .i64 0, .int .i64 0] 35)).heap.size = w.heap.size + 2 := by simp
  have HS0 := hidC hs0
  have HB0 := hidC hb0
  have HR0 := hidC hr0
  clear hs1 hs0 hb0 hr0
  have HT : Hid (∀ W, Calls Tryz.prog 43 #[.agg #[.int .i64 h, .int .i64 q, .int .i64 m], .int .i64 nb] W fun e w' => e = .returned (.tuple #[.agg #[.int .i64 (h + nb), .int .i64 (rpk m h q nb), .int .i64 m], .bool true]) ∧ Below W.heap.size W w') := fun W => by
    have k := rtake_any m h q nb W h0 h1 h2
    obtain ⟨e1, e2⟩ := tk_yes (m := m) (h := h) (n := (nb : Int)) (by omega) (by omega)
    rw [e1, e2] at k
    exact k
  generalize hrq : rpk m h q nb = rq at *
  clear hrq
  have HJ : Hid (∀ W, Below w.heap.size w W → Calls Tryz.prog 44 #[.slice ao no co, .slice ab nb cb] W fun e w' => ∃ a c, e = .returned (.slice a (no + nb) c) ∧ Own W.heap.size w' (.slice a (no + nb) c) (X ++ Y) ∧ Below W.heap.size W w') := fun W bW => by
    refine (join_any X Y k1 k2 _ _ W (hX.keep q1 bW) (fun p => Nat.lt_of_lt_of_le (q1 p) bW.size) (hY.keep q2 bW) (fun p => Nat.lt_of_lt_of_le (q2 p) bW.size) (by omega)).mono ?_
    rintro e w' ⟨v, rfl, O, B⟩
    obtain ⟨a, c, rfl, -⟩ := O.form
    have el : (X ++ Y).length = no + nb := by rw [List.length_append, hX.len.1, hY.len.1]
    rw [el] at O ⊢
    exact ⟨a, c, rfl, O, B⟩
  clear hX hY q1 q2
  go_enter Tryz.func22, Tryz.ntmps22
  go_wp2_with fail
  refine (HT.out _).mono ?_
  rintro e w1 ⟨rfl, B⟩
  have hb := (B.block _ (by rw [HS0.out]; omega)).trans HB0.out
  have hr := (B.block _ (by rw [HS0.out]; omega)).trans HR0.out
  have HW : Hid (Below w.heap.size w w1) := HW0.out.trans (B.mono (by rw [HS0.out]; omega))
  have hws : w.heap.size + 2 ≤ w1.heap.size := by have := B.size; rw [HS0.out] at this; exact this
  clear B HB0 HR0 HW0 HS0
  have U : Below w1.heap.size w1 (w1.alloc (.cells #[.int .i64 (h + nb), .int .i64 rq, .int .i64 m] 29)) := (Below.refl _ _).alloc (Nat.le_refl _) _
  have hnew := tblk_new w1 (.cells #[.int .i64 (h + nb), .int .i64 rq, .int .i64 m] 29)
  have hb := tblk_below hb U
  have hr := tblk_below hr U
  have HW : Hid (Below w.heap.size w (w1.alloc (.cells #[.int .i64 (h + nb), .int .i64 rq, .int .i64 m] 29))) := HW.out.trans (U.mono HW.out.size)
  have hwn : w.heap.size + 2 ≤ (w1.alloc (.cells #[.int .i64 (h + nb), .int .i64 rq, .int .i64 m] 29)).heap.size := Nat.le_trans hws U.size
  clear U hws
  have hws := hwn
  clear hwn
  go_upto_region 2 with fail
  generalize (w1.alloc (.cells #[.int .i64 (h + nb), .int .i64 rq, .int .i64 m] 29)) = w2 at *
  have y0 := tblk_cell (i := 0) hnew rfl
  have y1 := tblk_cell (i := 1) hnew rfl
  have y2 := tblk_cell (i := 2) hnew rfl
  have a6 := tblk_cell (i := 6) hb rfl
  have az6 := lblk_z (i := 6) hb
  have a7 := tblk_cell (i := 7) hb rfl
  have az7 := lblk_z (i := 7) hb
  have a8 := tblk_cell (i := 8) hb rfl
  have az8 := lblk_z (i := 8) hb
  have hb2 := met_cells hb (.int .i64 (h + nb)) (.int .i64 rq) (.int .i64 m)
  have hr2 : (((w2.setCell ⟨w.heap.size, 6, none⟩ (.int .i64 (h + nb))).setCell ⟨w.heap.size, 7, none⟩ (.int .i64 rq)).setCell ⟨w.heap.size, 8, none⟩ (.int .i64 m)).heap[w.heap.size + 1]? = _ := (met_away (show w.heap.size + 1 ≠ w.heap.size by omega)).trans hr
  have HW2 : Hid (Below w.heap.size w (((w2.setCell ⟨w.heap.size, 6, none⟩ (.int .i64 (h + nb))).setCell ⟨w.heap.size, 7, none⟩ (.int .i64 rq)).setCell ⟨w.heap.size, 8, none⟩ (.int .i64 m))) := met_below HW.out (Nat.le_refl _)
  have hw2 : (((w2.setCell ⟨w.heap.size, 6, none⟩ (.int .i64 (h + nb))).setCell ⟨w.heap.size, 7, none⟩ (.int .i64 rq)).setCell ⟨w.heap.size, 8, none⟩ (.int .i64 m)).heap.size = w2.heap.size := by simp [World.setCell]
  have hws2 : w.heap.size + 2 ≤ (((w2.setCell ⟨w.heap.size, 6, none⟩ (.int .i64 (h + nb))).setCell ⟨w.heap.size, 7, none⟩ (.int .i64 rq)).setCell ⟨w.heap.size, 8, none⟩ (.int .i64 m)).heap.size := by rw [hw2]; exact hws
  clear hw2 hws
  go_upto_region 5 with fail
  generalize (((w2.setCell ⟨w.heap.size, 6, none⟩ (.int .i64 (h + nb))).setCell ⟨w.heap.size, 7, none⟩ (.int .i64 rq)).setCell ⟨w.heap.size, 8, none⟩ (.int .i64 m)) = w3 at *
  clear a6 az6 a7 az7 a8 az8 hb hr HW
  have hb := hb2
  have hr := hr2
  have HW := HW2
  have hws := hws2
  clear hb2 hr2 HW2 hws2
  clear y0 y1 y2 hnew HT
  have a1 := tblk_cell (i := 1) hb rfl
  have az1 := lblk_z (i := 1) hb
  go_wp2_with fail
  have hob : w.heap.size + 2 ≤ w3.heap.size := hws
  refine (HJ.out _ HW.out).mono ?_
  rintro e w4 ⟨a, c, rfl, O, B⟩
  have hb := (B.block _ (heap_lt hb)).trans hb
  have hr := (B.block _ (heap_lt hr)).trans hr
  have HW : Hid (Below w.heap.size w w4) := HW.out.trans (B.mono HW.out.size)
  have hws : w.heap.size + 2 ≤ w4.heap.size := Nat.le_trans hws B.size
  clear B
  clear a1 az1
  have a1 := tblk_cell (i := 1) hb rfl
  have az1 := lblk_z (i := 1) hb
  have hb2 := one9_1 hb (.slice a (no + nb) c)
  have hr2 : (w4.setCell ⟨w.heap.size, 1, none⟩ (.slice a (no + nb) c)).heap[w.heap.size + 1]? = _ := (set_away (i := 1) (v := .slice a (no + nb) c) (show ¬ w.heap.size + 1 = w.heap.size by omega)).trans hr
  have HW2 : Hid (Below w.heap.size w (w4.setCell ⟨w.heap.size, 1, none⟩ (.slice a (no + nb) c))) := HW.out.setCell (p := ⟨w.heap.size, 1, none⟩) (Nat.le_refl _) _
  have hw2 : (w4.setCell ⟨w.heap.size, 1, none⟩ (.slice a (no + nb) c)).heap.size = w4.heap.size := by simp [World.setCell]
  have hws2 : w.heap.size + 2 ≤ (w4.setCell ⟨w.heap.size, 1, none⟩ (.slice a (no + nb) c)).heap.size := by rw [hw2]; exact hws
  clear hw2 hws
  have O : Own w3.heap.size (w4.setCell ⟨w.heap.size, 1, none⟩ (.slice a (no + nb) c)) (.slice a (no + nb) c) (X ++ Y) := O.kept (fun k h1 h2 => set_away (show ¬ k = w.heap.size by omega))
  go_upto_region 6 with fail
  generalize (w4.setCell ⟨w.heap.size, 1, none⟩ (.slice a (no + nb) c)) = w5 at *
  clear a1 az1 hb hr HW
  have hb := hb2
  have hr := hr2
  have HW := HW2
  have hws := hws2
  clear hb2 hr2 HW2 hws2
  have HOF : Hid (Own w.heap.size (nine w5 (w.heap.size + 1) (.slice ai ni ci) (.slice a (no + nb) c) (.int .i64 win) (.bool bz) (.bool cl) (.bool wt) (.int .i64 (h + nb)) (.int .i64 rq) (.int .i64 m)) (.slice a (no + nb) c) (X ++ Y)) := (O.kept (fun k h1 h2 => nine_away (show k ≠ w.heap.size + 1 by omega))).mono (by omega)
  unfold nine at HOF
  clear O hob
  obtain ⟨e0, e1, e2, e3, e4, e5, e6, e7, e8⟩ := t9_cells hb
  obtain ⟨c0, c1, c2, c3, c4, c5, c6, c7, c8⟩ := t9_cells hr
  obtain ⟨cz0, cz1, cz2, cz3, cz4, cz5, cz6, cz7, cz8⟩ := t9_z hr
  have HRB := hidC (nine_cells hr (.slice ai ni ci) (.slice a (no + nb) c) (.int .i64 win) (.bool bz) (.bool cl) (.bool wt) (.int .i64 (h + nb)) (.int .i64 rq) (.int .i64 m))
  have HEB := hidC (nine_below (.slice ai ni ci) (.slice a (no + nb) c) (.int .i64 win) (.bool bz) (.bool cl) (.bool wt) (.int .i64 (h + nb)) (.int .i64 rq) (.int .i64 m) HW.out (show w.heap.size ≤ (w.heap.size + 1) by first | exact Nat.le_refl _ | exact Nat.le_succ _ | omega))
  have hrb := HRB.out
  obtain ⟨r0, r1, r2, r3, r4, r5, r6, r7, r8⟩ := t9_cells hrb
  unfold nine at r0 r1 r2 r3 r4 r5 r6 r7 r8 HEB
  clear hrb HRB hb hr HW hws HJ
  go_wp2
  refine bodyPost_ret (v := .tuple #[.agg #[.slice ai ni ci, .slice a (no + nb) c, .int .i64 win, .bool bz, .bool cl, .bool wt, .int .i64 (h + nb), .int .i64 rq, .int .i64 m], .bool true]) (by simp [results, Tryz.results22, go_sem, r0, r1, r2, r3, r4, r5, r6, r7, r8]) rfl ?_
  exact ⟨a, c, _, rfl, HOF.out, HEB.out⟩
set_option maxRecDepth 100000 in
set_option maxHeartbeats 4000000 in
theorem r18feed_cl (ai : Option Addr) (ni ci : Nat) (ao : Option Addr) (no co : Nat) (win : Int) (bz wt : Bool) (h q m : Int) (ab : Option Addr) (nb cb : Nat) (w : World) :
    Calls Tryz.prog 13 #[.agg (dv ai ni ci ao no co win bz true wt h q m), .slice ab nb cb] w fun e w' => e = .returned (.tuple #[.agg (dv ai ni ci ao no co win bz true wt h q m), .bool true]) ∧ Below w.heap.size w w' := by
  unfold dv
  have hs1 : (w.alloc (.cells #[.slice ai ni ci, .slice ao no co, .int .i64 win, .bool bz, .bool true, .bool wt, .int .i64 h, .int .i64 q, .int .i64 m] 35)).heap.size = w.heap.size + 1 := by simp
  have hb0 : ((w.alloc (.cells #[.slice ai ni ci, .slice ao no co, .int .i64 win, .bool bz, .bool true, .bool wt, .int .i64 h, .int .i64 q, .int .i64 m] 35)).alloc (.cells #[.slice none 0 0, .slice none 0 0, .int .i64 0, .bool false, .bool false, .bool false, .int .i64 0, .int .i64 0, .int .i64 0] 35)).heap[w.heap.size]? = some (.cells #[.slice ai ni ci, .slice ao no co, .int .i64 win, .bool bz, .bool true, .bool wt, .int .i64 h, .int .i64 q, .int .i64 m] 35) := (Below.heap_alloc _ _ _ (by simp)).trans (tblk_new _ _)
  have hr0 : ((w.alloc (.cells #[.slice ai ni ci, .slice ao no co, .int .i64 win, .bool bz, .bool true, .bool wt, .int .i64 h, .int .i64 q, .int .i64 m] 35)).alloc (.cells #[.slice none 0 0, .slice none 0 0, .int .i64 0, .bool false, .bool false, .bool false, .int .i64 0, .int .i64 0, .int .i64 0] 35)).heap[w.heap.size + 1]? = some (.cells #[.slice none 0 0, .slice none 0 0, .int .i64 0, .bool false, .bool false, .bool false, .int .i64 0, .int .i64 0, .int .i64 0] 35) := by have k := tblk_new (w.alloc (.cells #[.slice ai ni ci, .slice ao no co, .int .i64 win, .bool bz, .bool true, .bool wt, .int .i64 h, .int .i64 q, .int .i64 m] 35)) (.cells #[.slice none 0 0, .slice none 0 0, .int .i64 0, .bool false, .bool false, .bool false, .int .i64 0, .int .i64 0, .int .i64 0] 35); rw [hs1] at k; exact k
  have HW0 : Hid (Below w.heap.size w ((w.alloc (.cells #[.slice ai ni ci, .slice ao no co, .int .i64 win, .bool bz, .bool true, .bool wt, .int .i64 h, .int .i64 q, .int .i64 m] 35)).alloc (.cells #[.slice none 0 0, .slice none 0 0, .int .i64 0, .bool false, .bool false, .bool false, .int .i64 0, .int .i64 0, .int .i64 0] 35))) := ((Below.refl w.heap.size w).alloc (Nat.le_refl _) _).alloc (by rw [hs1]; omega) _
  have hs0 : ((w.alloc (.cells #[.slice ai ni ci, .slice ao no co, .int .i64 win, .bool bz, .bool true, .bool wt, .int .i64 h, .int .i64 q, .int .i64 m] 35)).alloc (.cells #[.slice none 0 0, .slice none 0 0, .int .i64 0, .bool false, .bool false, .bool false, .int .i64 0, .int .i64 0, .int .i64 0] 35)).heap.size = w.heap.size + 2 := by simp
  have HS0 := hidC hs0
  have HB0 := hidC hb0
  have HR0 := hidC hr0
  clear hs1 hs0 hb0 hr0
  go_enter Tryz.func13, Tryz.ntmps13
  go_upto_region 1 with fail
  have hb := HB0.out
  have hr := HR0.out
  have HW := HW0
  have hws := Nat.le_of_eq HS0.out.symm
  clear HB0 HR0 HW0 HS0
  generalize ((w.alloc (.cells #[.slice ai ni ci, .slice ao no co, .int .i64 win, .bool bz, .bool true, .bool wt, .int .i64 h, .int .i64 q, .int .i64 m] 35)).alloc (.cells #[.slice none 0 0, .slice none 0 0, .int .i64 0, .bool false, .bool false, .bool false, .int .i64 0, .int .i64 0, .int .i64 0] 35)) = w1 at *
  have a4 := tblk_cell (i := 4) hb rfl
  have az4 := lblk_z (i := 4) hb
  obtain ⟨e0, e1, e2, e3, e4, e5, e6, e7, e8⟩ := t9_cells hb
  obtain ⟨c0, c1, c2, c3, c4, c5, c6, c7, c8⟩ := t9_cells hr
  obtain ⟨cz0, cz1, cz2, cz3, cz4, cz5, cz6, cz7, cz8⟩ := t9_z hr
  have HRB := hidC (nine_cells hr (.slice ai ni ci) (.slice ao no co) (.int .i64 win) (.bool bz) (.bool true) (.bool wt) (.int .i64 h) (.int .i64 q) (.int .i64 m))
  have HEB := hidC (nine_below (.slice ai ni ci) (.slice ao no co) (.int .i64 win) (.bool bz) (.bool true) (.bool wt) (.int .i64 h) (.int .i64 q) (.int .i64 m) HW.out (show w.heap.size ≤ (w.heap.size + 1) by first | exact Nat.le_refl _ | exact Nat.le_succ _ | omega))
  have hrb := HRB.out
  obtain ⟨r0, r1, r2, r3, r4, r5, r6, r7, r8⟩ := t9_cells hrb
  unfold nine at r0 r1 r2 r3 r4 r5 r6 r7 r8 HEB
  clear hrb HRB hb hr HW hws 
  go_wp2
  refine bodyPost_ret (v := .tuple #[.agg #[.slice ai ni ci, .slice ao no co, .int .i64 win, .bool bz, .bool true, .bool wt, .int .i64 h, .int .i64 q, .int .i64 m], .bool true]) (by simp [results, Tryz.results13, go_sem, r0, r1, r2, r3, r4, r5, r6, r7, r8]) rfl ?_
  exact ⟨rfl, HEB.out⟩
set_option maxRecDepth 100000 in
set_option maxHeartbeats 4000000 in
theorem r18feed_no (ai : Option Addr) (ni ci : Nat) (ao : Option Addr) (no co : Nat) (win : Int) (bz wt : Bool) (h q m : Int) (ab : Option Addr) (nb cb : Nat) (w : World) (h0 : 0 ≤ h) (h1 : h ≤ m) (h2 : m ≤ 1099511627776) (hn : ¬ h + nb ≤ m) :
    Calls Tryz.prog 13 #[.agg (dv ai ni ci ao no co win bz false wt h q m), .slice ab nb cb] w fun e w' => e = .returned (.tuple #[.agg (dv ai ni ci ao no co win bz false wt h q m), .bool false]) ∧ Below w.heap.size w w' := by
  unfold dv
  have hs1 : (w.alloc (.cells #[.slice ai ni ci, .slice ao no co, .int .i64 win, .bool bz, .bool false, .bool wt, .int .i64 h, .int .i64 q, .int .i64 m] 35)).heap.size = w.heap.size + 1 := by simp
  have hb0 : ((w.alloc (.cells #[.slice ai ni ci, .slice ao no co, .int .i64 win, .bool bz, .bool false, .bool wt, .int .i64 h, .int .i64 q, .int .i64 m] 35)).alloc (.cells #[.slice none 0 0, .slice none 0 0, .int .i64 0, .bool false, .bool false, .bool false, .int .i64 0, .int .i64 0, .int .i64 0] 35)).heap[w.heap.size]? = some (.cells #[.slice ai ni ci, .slice ao no co, .int .i64 win, .bool bz, .bool false, .bool wt, .int .i64 h, .int .i64 q, .int .i64 m] 35) := (Below.heap_alloc _ _ _ (by simp)).trans (tblk_new _ _)
  have hr0 : ((w.alloc (.cells #[.slice ai ni ci, .slice ao no co, .int .i64 win, .bool bz, .bool false, .bool wt, .int .i64 h, .int .i64 q, .int .i64 m] 35)).alloc (.cells #[.slice none 0 0, .slice none 0 0, .int .i64 0, .bool false, .bool false, .bool false, .int .i64 0, .int .i64 0, .int .i64 0] 35)).heap[w.heap.size + 1]? = some (.cells #[.slice none 0 0, .slice none 0 0, .int .i64 0, .bool false, .bool false, .bool false, .int .i64 0, .int .i64 0, .int .i64 0] 35) := by have k := tblk_new (w.alloc (.cells #[.slice ai ni ci, .slice ao no co, .int .i64 win, .bool bz, .bool false, .bool wt, .int .i64 h, .int .i64 q, .int .i64 m] 35)) (.cells #[.slice none 0 0, .slice none 0 0, .int .i64 0, .bool false, .bool false, .bool false, .int .i64 0, .int .i64 0, .int .i64 0] 35); rw [hs1] at k; exact k
  have HW0 : Hid (Below w.heap.size w ((w.alloc (.cells #[.slice ai ni ci, .slice ao no co, .int .i64 win, .bool bz, .bool false, .bool wt, .int .i64 h, .int .i64 q, .int .i64 m] 35)).alloc (.cells #[.slice none 0 0, .slice none 0 0, .int .i64 0, .bool false, .bool false, .bool false, .int .i64 0, .int .i64 0, .int .i64 0] 35))) := ((Below.refl w.heap.size w).alloc (Nat.le_refl _) _).alloc (by rw [hs1]; omega) _
  have hs0 : ((w.alloc (.cells #[.slice ai ni ci, .slice ao no co, .int .i64 win, .bool bz, .bool false, .bool wt, .int .i64 h, .int .i64 q, .int .i64 m] 35)).alloc (.cells #[.slice none 0 0, .slice none 0 0, .int .i64 0, .bool false, .bool false, .bool false, .int .i64 0, .int .i64 0, .int .i64 0] 35)).heap.size = w.heap.size + 2 := by simp
  have HS0 := hidC hs0
  have HB0 := hidC hb0
  have HR0 := hidC hr0
  clear hs1 hs0 hb0 hr0
  have HT : Hid (∀ W, Calls Tryz.prog 43 #[.agg #[.int .i64 h, .int .i64 q, .int .i64 m], .int .i64 nb] W fun e w' => e = .returned (.tuple #[.agg #[.int .i64 h, .int .i64 q, .int .i64 m], .bool false]) ∧ Below W.heap.size W w') := fun W => by
    have k := rtake_any m h q nb W h0 h1 h2
    obtain ⟨e1, e2⟩ := tk_no (m := m) (h := h) (n := (nb : Int)) (Or.inr (by omega))
    have e3 : rpk m h q nb = q := by unfold rpk; rw [if_neg (by omega)]
    rw [e3] at k
    rw [e1, e2] at k
    exact k
  go_enter Tryz.func13, Tryz.ntmps13
  go_wp2_with fail
  refine (HT.out _).mono ?_
  rintro e w1 ⟨rfl, B⟩
  have hb := (B.block _ (by rw [HS0.out]; omega)).trans HB0.out
  have hr := (B.block _ (by rw [HS0.out]; omega)).trans HR0.out
  have HW : Hid (Below w.heap.size w w1) := HW0.out.trans (B.mono (by rw [HS0.out]; omega))
  have hws : w.heap.size + 2 ≤ w1.heap.size := by have := B.size; rw [HS0.out] at this; exact this
  clear B HB0 HR0 HW0 HS0
  have U : Below w1.heap.size w1 (w1.alloc (.cells #[.int .i64 h, .int .i64 q, .int .i64 m] 29)) := (Below.refl _ _).alloc (Nat.le_refl _) _
  have hnew := tblk_new w1 (.cells #[.int .i64 h, .int .i64 q, .int .i64 m] 29)
  have hb := tblk_below hb U
  have hr := tblk_below hr U
  have HW : Hid (Below w.heap.size w (w1.alloc (.cells #[.int .i64 h, .int .i64 q, .int .i64 m] 29))) := HW.out.trans (U.mono HW.out.size)
  have hwn : w.heap.size + 2 ≤ (w1.alloc (.cells #[.int .i64 h, .int .i64 q, .int .i64 m] 29)).heap.size := Nat.le_trans hws U.size
  clear U hws
  have hws := hwn
  clear hwn
  go_upto_region 4 with fail
  generalize (w1.alloc (.cells #[.int .i64 h, .int .i64 q, .int .i64 m] 29)) = w2 at *
  have y0 := tblk_cell (i := 0) hnew rfl
  have y1 := tblk_cell (i := 1) hnew rfl
  have y2 := tblk_cell (i := 2) hnew rfl
  obtain ⟨e0, e1, e2, e3, e4, e5, e6, e7, e8⟩ := t9_cells hb
  obtain ⟨c0, c1, c2, c3, c4, c5, c6, c7, c8⟩ := t9_cells hr
  obtain ⟨cz0, cz1, cz2, cz3, cz4, cz5, cz6, cz7, cz8⟩ := t9_z hr
  have HRB := hidC (nine_cells hr (.slice ai ni ci) (.slice ao no co) (.int .i64 win) (.bool bz) (.bool false) (.bool wt) (.int .i64 h) (.int .i64 q) (.int .i64 m))
  have HEB := hidC (nine_below (.slice ai ni ci) (.slice ao no co) (.int .i64 win) (.bool bz) (.bool false) (.bool wt) (.int .i64 h) (.int .i64 q) (.int .i64 m) HW.out (show w.heap.size ≤ (w.heap.size + 1) by first | exact Nat.le_refl _ | exact Nat.le_succ _ | omega))
  have hrb := HRB.out
  obtain ⟨r0, r1, r2, r3, r4, r5, r6, r7, r8⟩ := t9_cells hrb
  unfold nine at r0 r1 r2 r3 r4 r5 r6 r7 r8 HEB
  clear hrb HRB hb hr HW hws hnew y0 y1 y2 HT
  go_wp2
  refine bodyPost_ret (v := .tuple #[.agg #[.slice ai ni ci, .slice ao no co, .int .i64 win, .bool bz, .bool false, .bool wt, .int .i64 h, .int .i64 q, .int .i64 m], .bool false]) (by simp [results, Tryz.results13, go_sem, r0, r1, r2, r3, r4, r5, r6, r7, r8]) rfl ?_
  exact ⟨rfl, HEB.out⟩
set_option maxRecDepth 100000 in
set_option maxHeartbeats 4000000 in
theorem r18feed_yes (ai : Option Addr) (ni ci : Nat) (ao : Option Addr) (no co : Nat) (win : Int) (bz wt : Bool) (h q m : Int) (ab : Option Addr) (nb cb : Nat) (w : World) (h0 : 0 ≤ h) (h1 : h ≤ m) (h2 : m ≤ 1099511627776) (hn : h + nb ≤ m) (X Y : List UInt8) (k1 k2 : Nat) (hX : Src w k1 (.slice ai ni ci) X) (q1 : 0 < X.length → k1 < w.heap.size) (hY : Src w k2 (.slice ab nb cb) Y) (q2 : 0 < Y.length → k2 < w.heap.size) (hl : X.length + Y.length ≤ 1099511627776) :
    Calls Tryz.prog 13 #[.agg (dv ai ni ci ao no co win bz false wt h q m), .slice ab nb cb] w fun e w' => ∃ a c q', e = .returned (.tuple #[.agg (dv a (ni + nb) c ao no co win bz false wt (h + nb) q' m), .bool true]) ∧ Own w.heap.size w' (.slice a (ni + nb) c) (X ++ Y) ∧ Below w.heap.size w w' := by
  unfold dv
  have hs1 : (w.alloc (.cells #[.slice ai ni ci, .slice ao no co, .int .i64 win, .bool bz, .bool false, .bool wt, .int .i64 h, .int .i64 q, .int .i64 m] 35)).heap.size = w.heap.size + 1 := by simp
  have hb0 : ((w.alloc (.cells #[.slice ai ni ci, .slice ao no co, .int .i64 win, .bool bz, .bool false, .bool wt, .int .i64 h, .int .i64 q, .int .i64 m] 35)).alloc (.cells #[.slice none 0 0, .slice none 0 0, .int .i64 0, .bool false, .bool false, .bool false, .int .i64 0, .int .i64 0, .int .i64 0] 35)).heap[w.heap.size]? = some (.cells #[.slice ai ni ci, .slice ao no co, .int .i64 win, .bool bz, .bool false, .bool wt, .int .i64 h, .int .i64 q, .int .i64 m] 35) := (Below.heap_alloc _ _ _ (by simp)).trans (tblk_new _ _)
  have hr0 : ((w.alloc (.cells #[.slice ai ni ci, .slice ao no co, .int .i64 win, .bool bz, .bool false, .bool wt, .int .i64 h, .int .i64 q, .int .i64 m] 35)).alloc (.cells #[.slice none 0 0, .slice none 0 0, .int .i64 0, .bool false, .bool false, .bool false, .int .i64 0, .int .i64 0, .int .i64 0] 35)).heap[w.heap.size + 1]? = some (.cells #[.slice none 0 0, .slice none 0 0, .int .i64 0, .bool false, .bool false, .bool false, .int .i64 0, .int .i64 0, .int .i64 0] 35) := by have k := tblk_new (w.alloc (.cells #[.slice ai ni ci, .slice ao no co, .int .i64 win, .bool bz, .bool false, .bool wt, .int .i64 h, .int .i64 q, .int .i64 m] 35)) (.cells #[.slice none 0 0, .slice none 0 0, .int .i64 0, .bool false, .bool false, .bool false, .int .i64 0, .int .i64 0, .int .i64 0] 35); rw [hs1] at k; exact k
  have HW0 : Hid (Below w.heap.size w ((w.alloc (.cells #[.slice ai ni ci, .slice ao no co, .int .i64 win, .bool bz, .bool false, .bool wt, .int .i64 h, .int .i64 q, .int .i64 m] 35)).alloc (.cells #[.slice none 0 0, .slice none 0 0, .int .i64 0, .bool false, .bool false, .bool false, .int .i64 0, .int .i64 0, .int .i64 0] 35))) := ((Below.refl w.heap.size w).alloc (Nat.le_refl _) _).alloc (by rw [hs1]; omega) _
  have hs0 : ((w.alloc (.cells #[.slice ai ni ci, .slice ao no co, .int .i64 win, .bool bz, .bool false, .bool wt, .int .i64 h, .int .i64 q, .int .i64 m] 35)).alloc (.cells #[.slice none 0 0, .slice none 0 0, .int .i64 0, .bool false, .bool false, .bool false, .int .i64 0, .int .i64 0, .int .i64 0] 35)).heap.size = w.heap.size + 2 := by simp
  have HS0 := hidC hs0
  have HB0 := hidC hb0
  have HR0 := hidC hr0
  clear hs1 hs0 hb0 hr0
  have HT : Hid (∀ W, Calls Tryz.prog 43 #[.agg #[.int .i64 h, .int .i64 q, .int .i64 m], .int .i64 nb] W fun e w' => e = .returned (.tuple #[.agg #[.int .i64 (h + nb), .int .i64 (rpk m h q nb), .int .i64 m], .bool true]) ∧ Below W.heap.size W w') := fun W => by
    have k := rtake_any m h q nb W h0 h1 h2
    obtain ⟨e1, e2⟩ := tk_yes (m := m) (h := h) (n := (nb : Int)) (by omega) (by omega)
    rw [e1, e2] at k
    exact k
  generalize hrq : rpk m h q nb = rq at *
  clear hrq
  have HJ : Hid (∀ W, Below w.heap.size w W → Calls Tryz.prog 44 #[.slice ai ni ci, .slice ab nb cb] W fun e w' => ∃ a c, e = .returned (.slice a (ni + nb) c) ∧ Own W.heap.size w' (.slice a (ni + nb) c) (X ++ Y) ∧ Below W.heap.size W w') := fun W bW => by
    refine (join_any X Y k1 k2 _ _ W (hX.keep q1 bW) (fun p => Nat.lt_of_lt_of_le (q1 p) bW.size) (hY.keep q2 bW) (fun p => Nat.lt_of_lt_of_le (q2 p) bW.size) (by omega)).mono ?_
    rintro e w' ⟨v, rfl, O, B⟩
    obtain ⟨a, c, rfl, -⟩ := O.form
    have el : (X ++ Y).length = ni + nb := by rw [List.length_append, hX.len.1, hY.len.1]
    rw [el] at O ⊢
    exact ⟨a, c, rfl, O, B⟩
  clear hX hY q1 q2
  go_enter Tryz.func13, Tryz.ntmps13
  go_wp2_with fail
  refine (HT.out _).mono ?_
  rintro e w1 ⟨rfl, B⟩
  have hb := (B.block _ (by rw [HS0.out]; omega)).trans HB0.out
  have hr := (B.block _ (by rw [HS0.out]; omega)).trans HR0.out
  have HW : Hid (Below w.heap.size w w1) := HW0.out.trans (B.mono (by rw [HS0.out]; omega))
  have hws : w.heap.size + 2 ≤ w1.heap.size := by have := B.size; rw [HS0.out] at this; exact this
  clear B HB0 HR0 HW0 HS0
  have U : Below w1.heap.size w1 (w1.alloc (.cells #[.int .i64 (h + nb), .int .i64 rq, .int .i64 m] 29)) := (Below.refl _ _).alloc (Nat.le_refl _) _
  have hnew := tblk_new w1 (.cells #[.int .i64 (h + nb), .int .i64 rq, .int .i64 m] 29)
  have hb := tblk_below hb U
  have hr := tblk_below hr U
  have HW : Hid (Below w.heap.size w (w1.alloc (.cells #[.int .i64 (h + nb), .int .i64 rq, .int .i64 m] 29))) := HW.out.trans (U.mono HW.out.size)
  have hwn : w.heap.size + 2 ≤ (w1.alloc (.cells #[.int .i64 (h + nb), .int .i64 rq, .int .i64 m] 29)).heap.size := Nat.le_trans hws U.size
  clear U hws
  have hws := hwn
  clear hwn
  go_upto_region 4 with fail
  generalize (w1.alloc (.cells #[.int .i64 (h + nb), .int .i64 rq, .int .i64 m] 29)) = w2 at *
  have y0 := tblk_cell (i := 0) hnew rfl
  have y1 := tblk_cell (i := 1) hnew rfl
  have y2 := tblk_cell (i := 2) hnew rfl
  have a6 := tblk_cell (i := 6) hb rfl
  have az6 := lblk_z (i := 6) hb
  have a7 := tblk_cell (i := 7) hb rfl
  have az7 := lblk_z (i := 7) hb
  have a8 := tblk_cell (i := 8) hb rfl
  have az8 := lblk_z (i := 8) hb
  have hb2 := met_cells hb (.int .i64 (h + nb)) (.int .i64 rq) (.int .i64 m)
  have hr2 : (((w2.setCell ⟨w.heap.size, 6, none⟩ (.int .i64 (h + nb))).setCell ⟨w.heap.size, 7, none⟩ (.int .i64 rq)).setCell ⟨w.heap.size, 8, none⟩ (.int .i64 m)).heap[w.heap.size + 1]? = _ := (met_away (show w.heap.size + 1 ≠ w.heap.size by omega)).trans hr
  have HW2 : Hid (Below w.heap.size w (((w2.setCell ⟨w.heap.size, 6, none⟩ (.int .i64 (h + nb))).setCell ⟨w.heap.size, 7, none⟩ (.int .i64 rq)).setCell ⟨w.heap.size, 8, none⟩ (.int .i64 m))) := met_below HW.out (Nat.le_refl _)
  have hw2 : (((w2.setCell ⟨w.heap.size, 6, none⟩ (.int .i64 (h + nb))).setCell ⟨w.heap.size, 7, none⟩ (.int .i64 rq)).setCell ⟨w.heap.size, 8, none⟩ (.int .i64 m)).heap.size = w2.heap.size := by simp [World.setCell]
  have hws2 : w.heap.size + 2 ≤ (((w2.setCell ⟨w.heap.size, 6, none⟩ (.int .i64 (h + nb))).setCell ⟨w.heap.size, 7, none⟩ (.int .i64 rq)).setCell ⟨w.heap.size, 8, none⟩ (.int .i64 m)).heap.size := by rw [hw2]; exact hws
  clear hw2 hws
  go_upto_region 7 with fail
  generalize (((w2.setCell ⟨w.heap.size, 6, none⟩ (.int .i64 (h + nb))).setCell ⟨w.heap.size, 7, none⟩ (.int .i64 rq)).setCell ⟨w.heap.size, 8, none⟩ (.int .i64 m)) = w3 at *
  clear a6 az6 a7 az7 a8 az8 hb hr HW
  have hb := hb2
  have hr := hr2
  have HW := HW2
  have hws := hws2
  clear hb2 hr2 HW2 hws2
  clear y0 y1 y2 hnew HT
  have a0 := tblk_cell (i := 0) hb rfl
  have az0 := lblk_z (i := 0) hb
  go_wp2_with fail
  have hob : w.heap.size + 2 ≤ w3.heap.size := hws
  refine (HJ.out _ HW.out).mono ?_
  rintro e w4 ⟨a, c, rfl, O, B⟩
  have hb := (B.block _ (heap_lt hb)).trans hb
  have hr := (B.block _ (heap_lt hr)).trans hr
  have HW : Hid (Below w.heap.size w w4) := HW.out.trans (B.mono HW.out.size)
  have hws : w.heap.size + 2 ≤ w4.heap.size := Nat.le_trans hws B.size
  clear B
  clear a0 az0
  have a0 := tblk_cell (i := 0) hb rfl
  have az0 := lblk_z (i := 0) hb
  have hb2 := one9_0 hb (.slice a (ni + nb) c)
  have hr2 : (w4.setCell ⟨w.heap.size, 0, none⟩ (.slice a (ni + nb) c)).heap[w.heap.size + 1]? = _ := (set_away (i := 0) (v := .slice a (ni + nb) c) (show ¬ w.heap.size + 1 = w.heap.size by omega)).trans hr
  have HW2 : Hid (Below w.heap.size w (w4.setCell ⟨w.heap.size, 0, none⟩ (.slice a (ni + nb) c))) := HW.out.setCell (p := ⟨w.heap.size, 0, none⟩) (Nat.le_refl _) _
  have hw2 : (w4.setCell ⟨w.heap.size, 0, none⟩ (.slice a (ni + nb) c)).heap.size = w4.heap.size := by simp [World.setCell]
  have hws2 : w.heap.size + 2 ≤ (w4.setCell ⟨w.heap.size, 0, none⟩ (.slice a (ni + nb) c)).heap.size := by rw [hw2]; exact hws
  clear hw2 hws
  have O : Own w3.heap.size (w4.setCell ⟨w.heap.size, 0, none⟩ (.slice a (ni + nb) c)) (.slice a (ni + nb) c) (X ++ Y) := O.kept (fun k h1 h2 => set_away (show ¬ k = w.heap.size by omega))
  go_upto_region 8 with fail
  generalize (w4.setCell ⟨w.heap.size, 0, none⟩ (.slice a (ni + nb) c)) = w5 at *
  clear a0 az0 hb hr HW
  have hb := hb2
  have hr := hr2
  have HW := HW2
  have hws := hws2
  clear hb2 hr2 HW2 hws2
  have HOF : Hid (Own w.heap.size (nine w5 (w.heap.size + 1) (.slice a (ni + nb) c) (.slice ao no co) (.int .i64 win) (.bool bz) (.bool false) (.bool wt) (.int .i64 (h + nb)) (.int .i64 rq) (.int .i64 m)) (.slice a (ni + nb) c) (X ++ Y)) := (O.kept (fun k h1 h2 => nine_away (show k ≠ w.heap.size + 1 by omega))).mono (by omega)
  unfold nine at HOF
  clear O hob
  obtain ⟨e0, e1, e2, e3, e4, e5, e6, e7, e8⟩ := t9_cells hb
  obtain ⟨c0, c1, c2, c3, c4, c5, c6, c7, c8⟩ := t9_cells hr
  obtain ⟨cz0, cz1, cz2, cz3, cz4, cz5, cz6, cz7, cz8⟩ := t9_z hr
  have HRB := hidC (nine_cells hr (.slice a (ni + nb) c) (.slice ao no co) (.int .i64 win) (.bool bz) (.bool false) (.bool wt) (.int .i64 (h + nb)) (.int .i64 rq) (.int .i64 m))
  have HEB := hidC (nine_below (.slice a (ni + nb) c) (.slice ao no co) (.int .i64 win) (.bool bz) (.bool false) (.bool wt) (.int .i64 (h + nb)) (.int .i64 rq) (.int .i64 m) HW.out (show w.heap.size ≤ (w.heap.size + 1) by first | exact Nat.le_refl _ | exact Nat.le_succ _ | omega))
  have hrb := HRB.out
  obtain ⟨r0, r1, r2, r3, r4, r5, r6, r7, r8⟩ := t9_cells hrb
  unfold nine at r0 r1 r2 r3 r4 r5 r6 r7 r8 HEB
  clear hrb HRB hb hr HW hws HJ
  go_wp2
  refine bodyPost_ret (v := .tuple #[.agg #[.slice a (ni + nb) c, .slice ao no co, .int .i64 win, .bool bz, .bool false, .bool wt, .int .i64 (h + nb), .int .i64 rq, .int .i64 m], .bool true]) (by simp [results, Tryz.results13, go_sem, r0, r1, r2, r3, r4, r5, r6, r7, r8]) rfl ?_
  exact ⟨a, c, _, rfl, HOF.out, HEB.out⟩
theorem r18want_any (ai : Option Addr) (ni ci : Nat) (ao : Option Addr) (no co : Nat) (win : Int) (bz cl wt : Bool) (w : World) :
    Calls Tryz.prog 32 #[.agg #[.slice ai ni ci, .slice ao no co, .int .i64 win, .bool bz, .bool cl, .bool wt]] w fun e w' => e = .returned (.int .i64 (btw no 0 win)) ∧ Below w.heap.size w w' := by
  have HT : Hid (∀ W, Calls Tryz.prog 42 #[.int .i64 no, .int .i64 0, .int .i64 win] W fun e w' => e = .returned (.int .i64 (btw no 0 win)) ∧ w' = W) := fun W => between_any no 0 win W
  have HB := hidC ((Below.refl w.heap.size w).alloc (Nat.le_refl _) (.cells #[.slice ai ni ci, .slice ao no co, .int .i64 win, .bool bz, .bool cl, .bool wt] 33))
  generalize btw no 0 win = z at *
  go_enter Tryz.func32, Tryz.ntmps32
  go_wp2_with fail
  refine (HT.out _).mono ?_
  rintro e w' ⟨rfl, hw⟩
  rw [hw]
  clear hw HT
  go_wp2
  go_ret
  exact ⟨rfl, HB.out⟩
theorem r18done_any (ai : Option Addr) (ni ci : Nat) (ao : Option Addr) (no co : Nat) (win : Int) (bz cl wt : Bool) (w : World) :
    Calls Tryz.prog 36 #[.agg #[.slice ai ni ci, .slice ao no co, .int .i64 win, .bool bz, .bool cl, .bool wt]] w fun e w' => e = .returned (.bool (cl && !bz && decide (no = 0))) ∧ Below w.heap.size w w' := by
  have HB := hidC ((Below.refl w.heap.size w).alloc (Nat.le_refl _) (.cells #[.slice ai ni ci, .slice ao no co, .int .i64 win, .bool bz, .bool cl, .bool wt] 33))
  cases cl with
  | false =>
    go_enter Tryz.func36, Tryz.ntmps36
    go_wp2
    go_ret
    exact ⟨rfl, HB.out⟩
  | true =>
    cases bz with
    | true =>
      go_enter Tryz.func36, Tryz.ntmps36
      go_wp2
      go_ret
      exact ⟨rfl, HB.out⟩
    | false =>
      go_enter Tryz.func36, Tryz.ntmps36
      go_wp2
      go_ret
      exact ⟨by by_cases k : no = 0 <;> simp [k], HB.out⟩
set_option maxRecDepth 100000 in
set_option maxHeartbeats 4000000 in
theorem r18drop_cl (ai : Option Addr) (ni ci : Nat) (ao : Option Addr) (no co : Nat) (win : Int) (bz wt : Bool) (h q m : Int) (w : World) (h0 : 0 ≤ h) (h1 : h ≤ m) (h2 : m ≤ 1099511627776) (g : (ni : Int) + no ≤ h) :
    Calls Tryz.prog 29 #[.agg (dv ai ni ci ao no co win bz true wt h q m)] w fun e w' => ∃ a', e = .returned (.agg (dv ai ni ci a' 0 0 win bz true wt (h - no) q m)) ∧ Below w.heap.size w w' := by
  unfold dv
  have hs1 : (w.alloc (.cells #[.slice ai ni ci, .slice ao no co, .int .i64 win, .bool bz, .bool true, .bool wt, .int .i64 h, .int .i64 q, .int .i64 m] 35)).heap.size = w.heap.size + 1 := by simp
  have hb0 : ((w.alloc (.cells #[.slice ai ni ci, .slice ao no co, .int .i64 win, .bool bz, .bool true, .bool wt, .int .i64 h, .int .i64 q, .int .i64 m] 35)).alloc (.cells #[.slice none 0 0, .slice none 0 0, .int .i64 0, .bool false, .bool false, .bool false, .int .i64 0, .int .i64 0, .int .i64 0] 35)).heap[w.heap.size]? = some (.cells #[.slice ai ni ci, .slice ao no co, .int .i64 win, .bool bz, .bool true, .bool wt, .int .i64 h, .int .i64 q, .int .i64 m] 35) := (Below.heap_alloc _ _ _ (by simp)).trans (tblk_new _ _)
  have hr0 : ((w.alloc (.cells #[.slice ai ni ci, .slice ao no co, .int .i64 win, .bool bz, .bool true, .bool wt, .int .i64 h, .int .i64 q, .int .i64 m] 35)).alloc (.cells #[.slice none 0 0, .slice none 0 0, .int .i64 0, .bool false, .bool false, .bool false, .int .i64 0, .int .i64 0, .int .i64 0] 35)).heap[w.heap.size + 1]? = some (.cells #[.slice none 0 0, .slice none 0 0, .int .i64 0, .bool false, .bool false, .bool false, .int .i64 0, .int .i64 0, .int .i64 0] 35) := by have k := tblk_new (w.alloc (.cells #[.slice ai ni ci, .slice ao no co, .int .i64 win, .bool bz, .bool true, .bool wt, .int .i64 h, .int .i64 q, .int .i64 m] 35)) (.cells #[.slice none 0 0, .slice none 0 0, .int .i64 0, .bool false, .bool false, .bool false, .int .i64 0, .int .i64 0, .int .i64 0] 35); rw [hs1] at k; exact k
  have HW0 : Hid (Below w.heap.size w ((w.alloc (.cells #[.slice ai ni ci, .slice ao no co, .int .i64 win, .bool bz, .bool true, .bool wt, .int .i64 h, .int .i64 q, .int .i64 m] 35)).alloc (.cells #[.slice none 0 0, .slice none 0 0, .int .i64 0, .bool false, .bool false, .bool false, .int .i64 0, .int .i64 0, .int .i64 0] 35))) := ((Below.refl w.heap.size w).alloc (Nat.le_refl _) _).alloc (by rw [hs1]; omega) _
  have hs0 : ((w.alloc (.cells #[.slice ai ni ci, .slice ao no co, .int .i64 win, .bool bz, .bool true, .bool wt, .int .i64 h, .int .i64 q, .int .i64 m] 35)).alloc (.cells #[.slice none 0 0, .slice none 0 0, .int .i64 0, .bool false, .bool false, .bool false, .int .i64 0, .int .i64 0, .int .i64 0] 35)).heap.size = w.heap.size + 2 := by simp
  have HS0 := hidC hs0
  have HB0 := hidC hb0
  have HR0 := hidC hr0
  clear hs1 hs0 hb0 hr0
  have HG := fun W : World => r18shut_yes ai ni ci ao no co win bz wt h q m W
  unfold dv at HG
  have HG := hidC HG
  go_enter Tryz.func29, Tryz.ntmps29
  go_wp2_with fail
  refine (HG.out _).mono ?_
  rintro e w1 ⟨rfl, B⟩
  have hb := (B.block _ (by rw [HS0.out]; omega)).trans HB0.out
  have hr := (B.block _ (by rw [HS0.out]; omega)).trans HR0.out
  have HW : Hid (Below w.heap.size w w1) := HW0.out.trans (B.mono (by rw [HS0.out]; omega))
  have hws : w.heap.size + 2 ≤ w1.heap.size := by have := B.size; rw [HS0.out] at this; exact this
  clear B HB0 HR0 HW0 HS0
  obtain ⟨a0, a1, a2, a3, a4, a5, a6, a7, a8⟩ := t9_cells hb
  obtain ⟨az0, az1, az2, az3, az4, az5, az6, az7, az8⟩ := t9_z hb
  have hb2 := nine_cells hb (.slice ai ni ci) (.slice ao no co) (.int .i64 win) (.bool bz) (.bool true) (.bool wt) (.int .i64 h) (.int .i64 q) (.int .i64 m)
  have hr2 : (nine w1 w.heap.size (.slice ai ni ci) (.slice ao no co) (.int .i64 win) (.bool bz) (.bool true) (.bool wt) (.int .i64 h) (.int .i64 q) (.int .i64 m)).heap[w.heap.size + 1]? = _ := (nine_away (show w.heap.size + 1 ≠ w.heap.size by omega)).trans hr
  have HW2 := hidC (nine_below (.slice ai ni ci) (.slice ao no co) (.int .i64 win) (.bool bz) (.bool true) (.bool wt) (.int .i64 h) (.int .i64 q) (.int .i64 m) HW.out (Nat.le_refl _))
  have hw2 : (nine w1 w.heap.size (.slice ai ni ci) (.slice ao no co) (.int .i64 win) (.bool bz) (.bool true) (.bool wt) (.int .i64 h) (.int .i64 q) (.int .i64 m)).heap.size = w1.heap.size := by unfold nine; simp [World.setCell]
  unfold nine at hb2 hr2 HW2 hw2
  have hws2 : w.heap.size + 2 ≤ (((((((((w1.setCell ⟨w.heap.size, 0, none⟩ (.slice ai ni ci)).setCell ⟨w.heap.size, 1, none⟩ (.slice ao no co)).setCell ⟨w.heap.size, 2, none⟩ (.int .i64 win)).setCell ⟨w.heap.size, 3, none⟩ (.bool bz)).setCell ⟨w.heap.size, 4, none⟩ (.bool true)).setCell ⟨w.heap.size, 5, none⟩ (.bool wt)).setCell ⟨w.heap.size, 6, none⟩ (.int .i64 h)).setCell ⟨w.heap.size, 7, none⟩ (.int .i64 q)).setCell ⟨w.heap.size, 8, none⟩ (.int .i64 m)).heap.size := by rw [hw2]; exact hws
  clear hw2 hws
  go_upto_region 2 with fail
  generalize (((((((((w1.setCell ⟨w.heap.size, 0, none⟩ (.slice ai ni ci)).setCell ⟨w.heap.size, 1, none⟩ (.slice ao no co)).setCell ⟨w.heap.size, 2, none⟩ (.int .i64 win)).setCell ⟨w.heap.size, 3, none⟩ (.bool bz)).setCell ⟨w.heap.size, 4, none⟩ (.bool true)).setCell ⟨w.heap.size, 5, none⟩ (.bool wt)).setCell ⟨w.heap.size, 6, none⟩ (.int .i64 h)).setCell ⟨w.heap.size, 7, none⟩ (.int .i64 q)).setCell ⟨w.heap.size, 8, none⟩ (.int .i64 m)) = w2 at *
  clear a0 az0 a1 az1 a2 az2 a3 az3 a4 az4 a5 az5 a6 az6 a7 az7 a8 az8 hb hr HW
  have hb := hb2
  have hr := hr2
  have HW := HW2
  have hws := hws2
  clear hb2 hr2 HW2 hws2
  have HG2 := fun W : World => r18give_any ai ni ci ao no co win bz true wt h q m no W (by omega) (by omega) h2 (by omega) (by omega)
  unfold dv at HG2
  have HG2 := hidC HG2
  obtain ⟨e0, e1, e2, e3, e4, e5, e6, e7, e8⟩ := t9_cells hb
  go_wp2_with fail
  refine (HG2.out _).mono ?_
  rintro e w3 ⟨rfl, B⟩
  have hb := (B.block _ (heap_lt hb)).trans hb
  have hr := (B.block _ (heap_lt hr)).trans hr
  have HW : Hid (Below w.heap.size w w3) := HW.out.trans (B.mono HW.out.size)
  have hws : w.heap.size + 2 ≤ w3.heap.size := Nat.le_trans hws B.size
  clear B
  clear e0 e1 e2 e3 e4 e5 e6 e7 e8
  obtain ⟨a0, a1, a2, a3, a4, a5, a6, a7, a8⟩ := t9_cells hb
  obtain ⟨az0, az1, az2, az3, az4, az5, az6, az7, az8⟩ := t9_z hb
  have hb2 := nine_cells hb (.slice ai ni ci) (.slice ao no co) (.int .i64 win) (.bool bz) (.bool true) (.bool wt) (.int .i64 (h - no)) (.int .i64 q) (.int .i64 m)
  have hr2 : (nine w3 w.heap.size (.slice ai ni ci) (.slice ao no co) (.int .i64 win) (.bool bz) (.bool true) (.bool wt) (.int .i64 (h - no)) (.int .i64 q) (.int .i64 m)).heap[w.heap.size + 1]? = _ := (nine_away (show w.heap.size + 1 ≠ w.heap.size by omega)).trans hr
  have HW2 := hidC (nine_below (.slice ai ni ci) (.slice ao no co) (.int .i64 win) (.bool bz) (.bool true) (.bool wt) (.int .i64 (h - no)) (.int .i64 q) (.int .i64 m) HW.out (Nat.le_refl _))
  have hw2 : (nine w3 w.heap.size (.slice ai ni ci) (.slice ao no co) (.int .i64 win) (.bool bz) (.bool true) (.bool wt) (.int .i64 (h - no)) (.int .i64 q) (.int .i64 m)).heap.size = w3.heap.size := by unfold nine; simp [World.setCell]
  unfold nine at hb2 hr2 HW2 hw2
  have hws2 : w.heap.size + 2 ≤ (((((((((w3.setCell ⟨w.heap.size, 0, none⟩ (.slice ai ni ci)).setCell ⟨w.heap.size, 1, none⟩ (.slice ao no co)).setCell ⟨w.heap.size, 2, none⟩ (.int .i64 win)).setCell ⟨w.heap.size, 3, none⟩ (.bool bz)).setCell ⟨w.heap.size, 4, none⟩ (.bool true)).setCell ⟨w.heap.size, 5, none⟩ (.bool wt)).setCell ⟨w.heap.size, 6, none⟩ (.int .i64 (h - no))).setCell ⟨w.heap.size, 7, none⟩ (.int .i64 q)).setCell ⟨w.heap.size, 8, none⟩ (.int .i64 m)).heap.size := by rw [hw2]; exact hws
  clear hw2 hws
  go_upto_region 3 with fail
  generalize (((((((((w3.setCell ⟨w.heap.size, 0, none⟩ (.slice ai ni ci)).setCell ⟨w.heap.size, 1, none⟩ (.slice ao no co)).setCell ⟨w.heap.size, 2, none⟩ (.int .i64 win)).setCell ⟨w.heap.size, 3, none⟩ (.bool bz)).setCell ⟨w.heap.size, 4, none⟩ (.bool true)).setCell ⟨w.heap.size, 5, none⟩ (.bool wt)).setCell ⟨w.heap.size, 6, none⟩ (.int .i64 (h - no))).setCell ⟨w.heap.size, 7, none⟩ (.int .i64 q)).setCell ⟨w.heap.size, 8, none⟩ (.int .i64 m)) = w4 at *
  clear a0 az0 a1 az1 a2 az2 a3 az3 a4 az4 a5 az5 a6 az6 a7 az7 a8 az8 hb hr HW
  have hb := hb2
  have hr := hr2
  have HW := HW2
  have hws := hws2
  clear hb2 hr2 HW2 hws2
  have U : Below w4.heap.size w4 (w4.alloc (.cells #[] 5)) := (Below.refl _ _).alloc (Nat.le_refl _) _
  have hnew := tblk_new w4 (.cells #[] 5)
  have hb := tblk_below hb U
  have hr := tblk_below hr U
  have HW : Hid (Below w.heap.size w (w4.alloc (.cells #[] 5))) := HW.out.trans (U.mono HW.out.size)
  have hwn : w.heap.size + 2 ≤ (w4.alloc (.cells #[] 5)).heap.size := Nat.le_trans hws U.size
  clear U hws
  have hws := hwn
  clear hwn
  have a1 := tblk_cell (i := 1) hb rfl
  have az1 := lblk_z (i := 1) hb
  have hb2 := one9_1 hb (.slice (some ⟨w4.heap.size, 0, none⟩) 0 0)
  have hr2 : ((w4.alloc (.cells #[] 5)).setCell ⟨w.heap.size, 1, none⟩ (.slice (some ⟨w4.heap.size, 0, none⟩) 0 0)).heap[w.heap.size + 1]? = _ := (set_away (i := 1) (v := .slice (some ⟨w4.heap.size, 0, none⟩) 0 0) (show ¬ w.heap.size + 1 = w.heap.size by omega)).trans hr
  have HW2 : Hid (Below w.heap.size w ((w4.alloc (.cells #[] 5)).setCell ⟨w.heap.size, 1, none⟩ (.slice (some ⟨w4.heap.size, 0, none⟩) 0 0))) := HW.out.setCell (p := ⟨w.heap.size, 1, none⟩) (Nat.le_refl _) _
  have hw2 : ((w4.alloc (.cells #[] 5)).setCell ⟨w.heap.size, 1, none⟩ (.slice (some ⟨w4.heap.size, 0, none⟩) 0 0)).heap.size = (w4.alloc (.cells #[] 5)).heap.size := by simp [World.setCell]
  have hws2 : w.heap.size + 2 ≤ ((w4.alloc (.cells #[] 5)).setCell ⟨w.heap.size, 1, none⟩ (.slice (some ⟨w4.heap.size, 0, none⟩) 0 0)).heap.size := by rw [hw2]; exact hws
  clear hw2 hws
  go_upto_region 4 with fail
  generalize ((w4.alloc (.cells #[] 5)).setCell ⟨w.heap.size, 1, none⟩ (.slice (some ⟨w4.heap.size, 0, none⟩) 0 0)) = w6 at *
  clear a1 az1 hb hr HW
  have hb := hb2
  have hr := hr2
  have HW := HW2
  have hws := hws2
  clear hb2 hr2 HW2 hws2
  obtain ⟨e0, e1, e2, e3, e4, e5, e6, e7, e8⟩ := t9_cells hb
  obtain ⟨c0, c1, c2, c3, c4, c5, c6, c7, c8⟩ := t9_cells hr
  obtain ⟨cz0, cz1, cz2, cz3, cz4, cz5, cz6, cz7, cz8⟩ := t9_z hr
  have HRB := hidC (nine_cells hr (.slice ai ni ci) (.slice (some ⟨w4.heap.size, 0, none⟩) 0 0) (.int .i64 win) (.bool bz) (.bool true) (.bool wt) (.int .i64 (h - no)) (.int .i64 q) (.int .i64 m))
  have HEB := hidC (nine_below (.slice ai ni ci) (.slice (some ⟨w4.heap.size, 0, none⟩) 0 0) (.int .i64 win) (.bool bz) (.bool true) (.bool wt) (.int .i64 (h - no)) (.int .i64 q) (.int .i64 m) HW.out (show w.heap.size ≤ (w.heap.size + 1) by first | exact Nat.le_refl _ | exact Nat.le_succ _ | omega))
  have hrb := HRB.out
  obtain ⟨r0, r1, r2, r3, r4, r5, r6, r7, r8⟩ := t9_cells hrb
  unfold nine at r0 r1 r2 r3 r4 r5 r6 r7 r8 HEB
  clear hrb HRB hb hr HW hws hnew HG HG2
  go_wp2
  refine bodyPost_ret (v := .agg #[.slice ai ni ci, .slice (some ⟨w4.heap.size, 0, none⟩) 0 0, .int .i64 win, .bool bz, .bool true, .bool wt, .int .i64 (h - no), .int .i64 q, .int .i64 m]) (by simp [results, Tryz.results29, go_sem, r0, r1, r2, r3, r4, r5, r6, r7, r8]) rfl ?_
  exact ⟨_, rfl, HEB.out⟩
set_option maxRecDepth 100000 in
set_option maxHeartbeats 4000000 in
theorem r18drop_op (ai : Option Addr) (ni ci : Nat) (ao : Option Addr) (no co : Nat) (win : Int) (bz wt : Bool) (h q m : Int) (w : World) (h0 : 0 ≤ h) (h1 : h ≤ m) (h2 : m ≤ 1099511627776) (g : (ni : Int) + no ≤ h) :
    Calls Tryz.prog 29 #[.agg (dv ai ni ci ao no co win bz false wt h q m)] w fun e w' => ∃ a a', e = .returned (.agg (dv a 0 0 a' 0 0 win bz true wt (h - ni - no) q m)) ∧ Below w.heap.size w w' := by
  unfold dv
  have hs1 : (w.alloc (.cells #[.slice ai ni ci, .slice ao no co, .int .i64 win, .bool bz, .bool false, .bool wt, .int .i64 h, .int .i64 q, .int .i64 m] 35)).heap.size = w.heap.size + 1 := by simp
  have hb0 : ((w.alloc (.cells #[.slice ai ni ci, .slice ao no co, .int .i64 win, .bool bz, .bool false, .bool wt, .int .i64 h, .int .i64 q, .int .i64 m] 35)).alloc (.cells #[.slice none 0 0, .slice none 0 0, .int .i64 0, .bool false, .bool false, .bool false, .int .i64 0, .int .i64 0, .int .i64 0] 35)).heap[w.heap.size]? = some (.cells #[.slice ai ni ci, .slice ao no co, .int .i64 win, .bool bz, .bool false, .bool wt, .int .i64 h, .int .i64 q, .int .i64 m] 35) := (Below.heap_alloc _ _ _ (by simp)).trans (tblk_new _ _)
  have hr0 : ((w.alloc (.cells #[.slice ai ni ci, .slice ao no co, .int .i64 win, .bool bz, .bool false, .bool wt, .int .i64 h, .int .i64 q, .int .i64 m] 35)).alloc (.cells #[.slice none 0 0, .slice none 0 0, .int .i64 0, .bool false, .bool false, .bool false, .int .i64 0, .int .i64 0, .int .i64 0] 35)).heap[w.heap.size + 1]? = some (.cells #[.slice none 0 0, .slice none 0 0, .int .i64 0, .bool false, .bool false, .bool false, .int .i64 0, .int .i64 0, .int .i64 0] 35) := by have k := tblk_new (w.alloc (.cells #[.slice ai ni ci, .slice ao no co, .int .i64 win, .bool bz, .bool false, .bool wt, .int .i64 h, .int .i64 q, .int .i64 m] 35)) (.cells #[.slice none 0 0, .slice none 0 0, .int .i64 0, .bool false, .bool false, .bool false, .int .i64 0, .int .i64 0, .int .i64 0] 35); rw [hs1] at k; exact k
  have HW0 : Hid (Below w.heap.size w ((w.alloc (.cells #[.slice ai ni ci, .slice ao no co, .int .i64 win, .bool bz, .bool false, .bool wt, .int .i64 h, .int .i64 q, .int .i64 m] 35)).alloc (.cells #[.slice none 0 0, .slice none 0 0, .int .i64 0, .bool false, .bool false, .bool false, .int .i64 0, .int .i64 0, .int .i64 0] 35))) := ((Below.refl w.heap.size w).alloc (Nat.le_refl _) _).alloc (by rw [hs1]; omega) _
  have hs0 : ((w.alloc (.cells #[.slice ai ni ci, .slice ao no co, .int .i64 win, .bool bz, .bool false, .bool wt, .int .i64 h, .int .i64 q, .int .i64 m] 35)).alloc (.cells #[.slice none 0 0, .slice none 0 0, .int .i64 0, .bool false, .bool false, .bool false, .int .i64 0, .int .i64 0, .int .i64 0] 35)).heap.size = w.heap.size + 2 := by simp
  have HS0 := hidC hs0
  have HB0 := hidC hb0
  have HR0 := hidC hr0
  clear hs1 hs0 hb0 hr0
  have HG := fun W : World => r18shut_no ai ni ci ao no co win bz wt h q m W (by omega) h1 h2 (by omega)
  unfold dv at HG
  have HG := hidC HG
  go_enter Tryz.func29, Tryz.ntmps29
  go_wp2_with fail
  refine (HG.out _).mono ?_
  rintro e w1 ⟨a, rfl, B⟩
  have hb := (B.block _ (by rw [HS0.out]; omega)).trans HB0.out
  have hr := (B.block _ (by rw [HS0.out]; omega)).trans HR0.out
  have HW : Hid (Below w.heap.size w w1) := HW0.out.trans (B.mono (by rw [HS0.out]; omega))
  have hws : w.heap.size + 2 ≤ w1.heap.size := by have := B.size; rw [HS0.out] at this; exact this
  clear B HB0 HR0 HW0 HS0
  obtain ⟨a0, a1, a2, a3, a4, a5, a6, a7, a8⟩ := t9_cells hb
  obtain ⟨az0, az1, az2, az3, az4, az5, az6, az7, az8⟩ := t9_z hb
  have hb2 := nine_cells hb (.slice a 0 0) (.slice ao no co) (.int .i64 win) (.bool bz) (.bool true) (.bool wt) (.int .i64 (h - ni)) (.int .i64 q) (.int .i64 m)
  have hr2 : (nine w1 w.heap.size (.slice a 0 0) (.slice ao no co) (.int .i64 win) (.bool bz) (.bool true) (.bool wt) (.int .i64 (h - ni)) (.int .i64 q) (.int .i64 m)).heap[w.heap.size + 1]? = _ := (nine_away (show w.heap.size + 1 ≠ w.heap.size by omega)).trans hr
  have HW2 := hidC (nine_below (.slice a 0 0) (.slice ao no co) (.int .i64 win) (.bool bz) (.bool true) (.bool wt) (.int .i64 (h - ni)) (.int .i64 q) (.int .i64 m) HW.out (Nat.le_refl _))
  have hw2 : (nine w1 w.heap.size (.slice a 0 0) (.slice ao no co) (.int .i64 win) (.bool bz) (.bool true) (.bool wt) (.int .i64 (h - ni)) (.int .i64 q) (.int .i64 m)).heap.size = w1.heap.size := by unfold nine; simp [World.setCell]
  unfold nine at hb2 hr2 HW2 hw2
  have hws2 : w.heap.size + 2 ≤ (((((((((w1.setCell ⟨w.heap.size, 0, none⟩ (.slice a 0 0)).setCell ⟨w.heap.size, 1, none⟩ (.slice ao no co)).setCell ⟨w.heap.size, 2, none⟩ (.int .i64 win)).setCell ⟨w.heap.size, 3, none⟩ (.bool bz)).setCell ⟨w.heap.size, 4, none⟩ (.bool true)).setCell ⟨w.heap.size, 5, none⟩ (.bool wt)).setCell ⟨w.heap.size, 6, none⟩ (.int .i64 (h - ni))).setCell ⟨w.heap.size, 7, none⟩ (.int .i64 q)).setCell ⟨w.heap.size, 8, none⟩ (.int .i64 m)).heap.size := by rw [hw2]; exact hws
  clear hw2 hws
  go_upto_region 2 with fail
  generalize (((((((((w1.setCell ⟨w.heap.size, 0, none⟩ (.slice a 0 0)).setCell ⟨w.heap.size, 1, none⟩ (.slice ao no co)).setCell ⟨w.heap.size, 2, none⟩ (.int .i64 win)).setCell ⟨w.heap.size, 3, none⟩ (.bool bz)).setCell ⟨w.heap.size, 4, none⟩ (.bool true)).setCell ⟨w.heap.size, 5, none⟩ (.bool wt)).setCell ⟨w.heap.size, 6, none⟩ (.int .i64 (h - ni))).setCell ⟨w.heap.size, 7, none⟩ (.int .i64 q)).setCell ⟨w.heap.size, 8, none⟩ (.int .i64 m)) = w2 at *
  clear a0 az0 a1 az1 a2 az2 a3 az3 a4 az4 a5 az5 a6 az6 a7 az7 a8 az8 hb hr HW
  have hb := hb2
  have hr := hr2
  have HW := HW2
  have hws := hws2
  clear hb2 hr2 HW2 hws2
  have HG2 := fun W : World => r18give_any a 0 0 ao no co win bz true wt (h - ni) q m no W (by omega) (by omega) h2 (by omega) (by omega)
  unfold dv at HG2
  have HG2 := hidC HG2
  obtain ⟨e0, e1, e2, e3, e4, e5, e6, e7, e8⟩ := t9_cells hb
  go_wp2_with fail
  refine (HG2.out _).mono ?_
  rintro e w3 ⟨rfl, B⟩
  have hb := (B.block _ (heap_lt hb)).trans hb
  have hr := (B.block _ (heap_lt hr)).trans hr
  have HW : Hid (Below w.heap.size w w3) := HW.out.trans (B.mono HW.out.size)
  have hws : w.heap.size + 2 ≤ w3.heap.size := Nat.le_trans hws B.size
  clear B
  clear e0 e1 e2 e3 e4 e5 e6 e7 e8
  obtain ⟨a0, a1, a2, a3, a4, a5, a6, a7, a8⟩ := t9_cells hb
  obtain ⟨az0, az1, az2, az3, az4, az5, az6, az7, az8⟩ := t9_z hb
  have hb2 := nine_cells hb (.slice a 0 0) (.slice ao no co) (.int .i64 win) (.bool bz) (.bool true) (.bool wt) (.int .i64 ((h - ni) - no)) (.int .i64 q) (.int .i64 m)
  have hr2 : (nine w3 w.heap.size (.slice a 0 0) (.slice ao no co) (.int .i64 win) (.bool bz) (.bool true) (.bool wt) (.int .i64 ((h - ni) - no)) (.int .i64 q) (.int .i64 m)).heap[w.heap.size + 1]? = _ := (nine_away (show w.heap.size + 1 ≠ w.heap.size by omega)).trans hr
  have HW2 := hidC (nine_below (.slice a 0 0) (.slice ao no co) (.int .i64 win) (.bool bz) (.bool true) (.bool wt) (.int .i64 ((h - ni) - no)) (.int .i64 q) (.int .i64 m) HW.out (Nat.le_refl _))
  have hw2 : (nine w3 w.heap.size (.slice a 0 0) (.slice ao no co) (.int .i64 win) (.bool bz) (.bool true) (.bool wt) (.int .i64 ((h - ni) - no)) (.int .i64 q) (.int .i64 m)).heap.size = w3.heap.size := by unfold nine; simp [World.setCell]
  unfold nine at hb2 hr2 HW2 hw2
  have hws2 : w.heap.size + 2 ≤ (((((((((w3.setCell ⟨w.heap.size, 0, none⟩ (.slice a 0 0)).setCell ⟨w.heap.size, 1, none⟩ (.slice ao no co)).setCell ⟨w.heap.size, 2, none⟩ (.int .i64 win)).setCell ⟨w.heap.size, 3, none⟩ (.bool bz)).setCell ⟨w.heap.size, 4, none⟩ (.bool true)).setCell ⟨w.heap.size, 5, none⟩ (.bool wt)).setCell ⟨w.heap.size, 6, none⟩ (.int .i64 ((h - ni) - no))).setCell ⟨w.heap.size, 7, none⟩ (.int .i64 q)).setCell ⟨w.heap.size, 8, none⟩ (.int .i64 m)).heap.size := by rw [hw2]; exact hws
  clear hw2 hws
  go_upto_region 3 with fail
  generalize (((((((((w3.setCell ⟨w.heap.size, 0, none⟩ (.slice a 0 0)).setCell ⟨w.heap.size, 1, none⟩ (.slice ao no co)).setCell ⟨w.heap.size, 2, none⟩ (.int .i64 win)).setCell ⟨w.heap.size, 3, none⟩ (.bool bz)).setCell ⟨w.heap.size, 4, none⟩ (.bool true)).setCell ⟨w.heap.size, 5, none⟩ (.bool wt)).setCell ⟨w.heap.size, 6, none⟩ (.int .i64 ((h - ni) - no))).setCell ⟨w.heap.size, 7, none⟩ (.int .i64 q)).setCell ⟨w.heap.size, 8, none⟩ (.int .i64 m)) = w4 at *
  clear a0 az0 a1 az1 a2 az2 a3 az3 a4 az4 a5 az5 a6 az6 a7 az7 a8 az8 hb hr HW
  have hb := hb2
  have hr := hr2
  have HW := HW2
  have hws := hws2
  clear hb2 hr2 HW2 hws2
  have U : Below w4.heap.size w4 (w4.alloc (.cells #[] 5)) := (Below.refl _ _).alloc (Nat.le_refl _) _
  have hnew := tblk_new w4 (.cells #[] 5)
  have hb := tblk_below hb U
  have hr := tblk_below hr U
  have HW : Hid (Below w.heap.size w (w4.alloc (.cells #[] 5))) := HW.out.trans (U.mono HW.out.size)
  have hwn : w.heap.size + 2 ≤ (w4.alloc (.cells #[] 5)).heap.size := Nat.le_trans hws U.size
  clear U hws
  have hws := hwn
  clear hwn
  have a1 := tblk_cell (i := 1) hb rfl
  have az1 := lblk_z (i := 1) hb
  have hb2 := one9_1 hb (.slice (some ⟨w4.heap.size, 0, none⟩) 0 0)
  have hr2 : ((w4.alloc (.cells #[] 5)).setCell ⟨w.heap.size, 1, none⟩ (.slice (some ⟨w4.heap.size, 0, none⟩) 0 0)).heap[w.heap.size + 1]? = _ := (set_away (i := 1) (v := .slice (some ⟨w4.heap.size, 0, none⟩) 0 0) (show ¬ w.heap.size + 1 = w.heap.size by omega)).trans hr
  have HW2 : Hid (Below w.heap.size w ((w4.alloc (.cells #[] 5)).setCell ⟨w.heap.size, 1, none⟩ (.slice (some ⟨w4.heap.size, 0, none⟩) 0 0))) := HW.out.setCell (p := ⟨w.heap.size, 1, none⟩) (Nat.le_refl _) _
  have hw2 : ((w4.alloc (.cells #[] 5)).setCell ⟨w.heap.size, 1, none⟩ (.slice (some ⟨w4.heap.size, 0, none⟩) 0 0)).heap.size = (w4.alloc (.cells #[] 5)).heap.size := by simp [World.setCell]
  have hws2 : w.heap.size + 2 ≤ ((w4.alloc (.cells #[] 5)).setCell ⟨w.heap.size, 1, none⟩ (.slice (some ⟨w4.heap.size, 0, none⟩) 0 0)).heap.size := by rw [hw2]; exact hws
  clear hw2 hws
  go_upto_region 4 with fail
  generalize ((w4.alloc (.cells #[] 5)).setCell ⟨w.heap.size, 1, none⟩ (.slice (some ⟨w4.heap.size, 0, none⟩) 0 0)) = w6 at *
  clear a1 az1 hb hr HW
  have hb := hb2
  have hr := hr2
  have HW := HW2
  have hws := hws2
  clear hb2 hr2 HW2 hws2
  obtain ⟨e0, e1, e2, e3, e4, e5, e6, e7, e8⟩ := t9_cells hb
  obtain ⟨c0, c1, c2, c3, c4, c5, c6, c7, c8⟩ := t9_cells hr
  obtain ⟨cz0, cz1, cz2, cz3, cz4, cz5, cz6, cz7, cz8⟩ := t9_z hr
  have HRB := hidC (nine_cells hr (.slice a 0 0) (.slice (some ⟨w4.heap.size, 0, none⟩) 0 0) (.int .i64 win) (.bool bz) (.bool true) (.bool wt) (.int .i64 ((h - ni) - no)) (.int .i64 q) (.int .i64 m))
  have HEB := hidC (nine_below (.slice a 0 0) (.slice (some ⟨w4.heap.size, 0, none⟩) 0 0) (.int .i64 win) (.bool bz) (.bool true) (.bool wt) (.int .i64 ((h - ni) - no)) (.int .i64 q) (.int .i64 m) HW.out (show w.heap.size ≤ (w.heap.size + 1) by first | exact Nat.le_refl _ | exact Nat.le_succ _ | omega))
  have hrb := HRB.out
  obtain ⟨r0, r1, r2, r3, r4, r5, r6, r7, r8⟩ := t9_cells hrb
  unfold nine at r0 r1 r2 r3 r4 r5 r6 r7 r8 HEB
  clear hrb HRB hb hr HW hws hnew HG HG2
  go_wp2
  refine bodyPost_ret (v := .agg #[.slice a 0 0, .slice (some ⟨w4.heap.size, 0, none⟩) 0 0, .int .i64 win, .bool bz, .bool true, .bool wt, .int .i64 ((h - ni) - no), .int .i64 q, .int .i64 m]) (by simp [results, Tryz.results29, go_sem, r0, r1, r2, r3, r4, r5, r6, r7, r8]) rfl ?_
  exact ⟨a, _, rfl, HEB.out⟩
set_option maxRecDepth 100000 in
set_option maxHeartbeats 4000000 in
theorem r18window_any (ai : Option Addr) (ni ci : Nat) (ao : Option Addr) (no co : Nat) (win : Int) (bz cl wt : Bool) (h q m : Int) (n d x : Int) (w : World) (hwb : -2147483648 ≤ win ∧ win ≤ 2147483648) (hd : btw n 0 1073741824 = d) (hx : btw (win + d) 0 1073741824 = x) :
    Calls Tryz.prog 24 #[.agg (dv ai ni ci ao no co win bz cl wt h q m), .int .i64 n] w fun e w' => e = .returned (.agg (dv ai ni ci ao no co x bz cl wt h q m)) ∧ Below w.heap.size w w' := by
  unfold dv
  have hs1 : (w.alloc (.cells #[.slice ai ni ci, .slice ao no co, .int .i64 win, .bool bz, .bool cl, .bool wt, .int .i64 h, .int .i64 q, .int .i64 m] 35)).heap.size = w.heap.size + 1 := by simp
  have hb0 : ((w.alloc (.cells #[.slice ai ni ci, .slice ao no co, .int .i64 win, .bool bz, .bool cl, .bool wt, .int .i64 h, .int .i64 q, .int .i64 m] 35)).alloc (.cells #[.slice none 0 0, .slice none 0 0, .int .i64 0, .bool false, .bool false, .bool false, .int .i64 0, .int .i64 0, .int .i64 0] 35)).heap[w.heap.size]? = some (.cells #[.slice ai ni ci, .slice ao no co, .int .i64 win, .bool bz, .bool cl, .bool wt, .int .i64 h, .int .i64 q, .int .i64 m] 35) := (Below.heap_alloc _ _ _ (by simp)).trans (tblk_new _ _)
  have hr0 : ((w.alloc (.cells #[.slice ai ni ci, .slice ao no co, .int .i64 win, .bool bz, .bool cl, .bool wt, .int .i64 h, .int .i64 q, .int .i64 m] 35)).alloc (.cells #[.slice none 0 0, .slice none 0 0, .int .i64 0, .bool false, .bool false, .bool false, .int .i64 0, .int .i64 0, .int .i64 0] 35)).heap[w.heap.size + 1]? = some (.cells #[.slice none 0 0, .slice none 0 0, .int .i64 0, .bool false, .bool false, .bool false, .int .i64 0, .int .i64 0, .int .i64 0] 35) := by have k := tblk_new (w.alloc (.cells #[.slice ai ni ci, .slice ao no co, .int .i64 win, .bool bz, .bool cl, .bool wt, .int .i64 h, .int .i64 q, .int .i64 m] 35)) (.cells #[.slice none 0 0, .slice none 0 0, .int .i64 0, .bool false, .bool false, .bool false, .int .i64 0, .int .i64 0, .int .i64 0] 35); rw [hs1] at k; exact k
  have HW0 : Hid (Below w.heap.size w ((w.alloc (.cells #[.slice ai ni ci, .slice ao no co, .int .i64 win, .bool bz, .bool cl, .bool wt, .int .i64 h, .int .i64 q, .int .i64 m] 35)).alloc (.cells #[.slice none 0 0, .slice none 0 0, .int .i64 0, .bool false, .bool false, .bool false, .int .i64 0, .int .i64 0, .int .i64 0] 35))) := ((Below.refl w.heap.size w).alloc (Nat.le_refl _) _).alloc (by rw [hs1]; omega) _
  have hs0 : ((w.alloc (.cells #[.slice ai ni ci, .slice ao no co, .int .i64 win, .bool bz, .bool cl, .bool wt, .int .i64 h, .int .i64 q, .int .i64 m] 35)).alloc (.cells #[.slice none 0 0, .slice none 0 0, .int .i64 0, .bool false, .bool false, .bool false, .int .i64 0, .int .i64 0, .int .i64 0] 35)).heap.size = w.heap.size + 2 := by simp
  have HS0 := hidC hs0
  have HB0 := hidC hb0
  have HR0 := hidC hr0
  clear hs1 hs0 hb0 hr0
  have HT1 : Hid (∀ W, Calls Tryz.prog 42 #[.int .i64 n, .int .i64 0, .int .i64 1073741824] W fun e w' => e = .returned (.int .i64 d) ∧ w' = W) := fun W => by rw [← hd]; exact between_any n 0 1073741824 W
  have hd1 : 0 ≤ d ∧ d ≤ 1073741824 := by rw [← hd]; unfold btw; split <;> (try split) <;> omega
  have hwr : IntKind.i64.wrap (win + d) = win + d := by simp [IntKind.wrap, IntKind.bits, IntKind.signed]; omega
  have HT2 : Hid (∀ W, Calls Tryz.prog 42 #[.int .i64 (IntKind.i64.wrap (win + d)), .int .i64 0, .int .i64 1073741824] W fun e w' => e = .returned (.int .i64 x) ∧ w' = W) := fun W => by rw [hwr, ← hx]; exact between_any (win + d) 0 1073741824 W
  clear hd hx hwb hd1 hwr
  go_enter Tryz.func24, Tryz.ntmps24
  go_upto_region 1 with fail
  have hb := HB0.out
  have hr := HR0.out
  have HW := HW0
  have hws := Nat.le_of_eq HS0.out.symm
  clear HB0 HR0 HW0 HS0
  generalize ((w.alloc (.cells #[.slice ai ni ci, .slice ao no co, .int .i64 win, .bool bz, .bool cl, .bool wt, .int .i64 h, .int .i64 q, .int .i64 m] 35)).alloc (.cells #[.slice none 0 0, .slice none 0 0, .int .i64 0, .bool false, .bool false, .bool false, .int .i64 0, .int .i64 0, .int .i64 0] 35)) = w1 at *
  have a2 := tblk_cell (i := 2) hb rfl
  have az2 := lblk_z (i := 2) hb
  have HWS := hidC hws
  clear hws
  go_region_with (first | (go_at_call 42; refine (HT1.out _).mono ?_; rintro e w' ⟨rfl, rfl⟩; clear HT1) | (go_at_call 42; refine (HT2.out _).mono ?_; rintro e w' ⟨rfl, rfl⟩; clear HT2))
  all_goals
    have hws := HWS.out
    have hb2 := one9_2 hb (.int .i64 x)
    have hr2 : (w1.setCell ⟨w.heap.size, 2, none⟩ (.int .i64 x)).heap[w.heap.size + 1]? = _ := (set_away (i := 2) (v := .int .i64 x) (show ¬ w.heap.size + 1 = w.heap.size by omega)).trans hr
    have HW2 : Hid (Below w.heap.size w (w1.setCell ⟨w.heap.size, 2, none⟩ (.int .i64 x))) := HW.out.setCell (p := ⟨w.heap.size, 2, none⟩) (Nat.le_refl _) _
    have hw2 : (w1.setCell ⟨w.heap.size, 2, none⟩ (.int .i64 x)).heap.size = w1.heap.size := by simp [World.setCell]
    have hws2 : w.heap.size + 2 ≤ (w1.setCell ⟨w.heap.size, 2, none⟩ (.int .i64 x)).heap.size := by rw [hw2]; exact hws
    clear hw2 hws
    clear hb hr HW
    have hb := hb2
    have hr := hr2
    have HW := HW2
    have hws := hws2
    clear hb2 hr2 HW2 hws2
    obtain ⟨e0, e1, e2, e3, e4, e5, e6, e7, e8⟩ := t9_cells hb
    obtain ⟨c0, c1, c2, c3, c4, c5, c6, c7, c8⟩ := t9_cells hr
    obtain ⟨cz0, cz1, cz2, cz3, cz4, cz5, cz6, cz7, cz8⟩ := t9_z hr
    have HRB := hidC (nine_cells hr (.slice ai ni ci) (.slice ao no co) (.int .i64 x) (.bool bz) (.bool cl) (.bool wt) (.int .i64 h) (.int .i64 q) (.int .i64 m))
    have HEB := hidC (nine_below (.slice ai ni ci) (.slice ao no co) (.int .i64 x) (.bool bz) (.bool cl) (.bool wt) (.int .i64 h) (.int .i64 q) (.int .i64 m) HW.out (show w.heap.size ≤ (w.heap.size + 1) by first | exact Nat.le_refl _ | exact Nat.le_succ _ | omega))
    have hrb := HRB.out
    obtain ⟨r0, r1, r2, r3, r4, r5, r6, r7, r8⟩ := t9_cells hrb
    unfold nine at r0 r1 r2 r3 r4 r5 r6 r7 r8 HEB
    clear hrb HRB hb hr HW hws HWS a2 az2
    go_wp2
    refine bodyPost_ret (v := .agg #[.slice ai ni ci, .slice ao no co, .int .i64 x, .bool bz, .bool cl, .bool wt, .int .i64 h, .int .i64 q, .int .i64 m]) (by simp [results, Tryz.results24, go_sem, r0, r1, r2, r3, r4, r5, r6, r7, r8]) rfl ?_
    exact ⟨rfl, HEB.out.drew⟩
set_option maxRecDepth 100000 in
set_option maxHeartbeats 4000000 in
theorem r18write_last (ai : Option Addr) (ni ci : Nat) (ao : Option Addr) (nn : Nat) (win : Int) (bz cl wt : Bool) (h q m : Int) (n wa : Int) (w : World) (h0 : 0 ≤ h) (h1 : h ≤ m) (h2 : m ≤ 1099511627776) (hwa : btw nn 0 win = wa) (hnn : btw n 0 wa = nn) (g3 : (nn : Int) ≤ h) (hw : (nn : Int) ≤ win) (hwb : win ≤ 1073741824) (hco : nn ≤ 9223372036854775807) :
    Calls Tryz.prog 26 #[.agg (dv ai ni ci ao nn nn win bz cl wt h q m), .int .i64 n] w fun e w' => e = .returned (.tuple #[.agg (dv ai ni ci ao 0 0 (win - nn) bz cl wt (h - nn) q m), .slice ao nn nn]) ∧ Below w.heap.size w w' := by
  unfold dv
  have hs1 : (w.alloc (.cells #[.slice ai ni ci, .slice ao nn nn, .int .i64 win, .bool bz, .bool cl, .bool wt, .int .i64 h, .int .i64 q, .int .i64 m] 35)).heap.size = w.heap.size + 1 := by simp
  have hb0 : ((w.alloc (.cells #[.slice ai ni ci, .slice ao nn nn, .int .i64 win, .bool bz, .bool cl, .bool wt, .int .i64 h, .int .i64 q, .int .i64 m] 35)).alloc (.cells #[.slice none 0 0, .slice none 0 0, .int .i64 0, .bool false, .bool false, .bool false, .int .i64 0, .int .i64 0, .int .i64 0] 35)).heap[w.heap.size]? = some (.cells #[.slice ai ni ci, .slice ao nn nn, .int .i64 win, .bool bz, .bool cl, .bool wt, .int .i64 h, .int .i64 q, .int .i64 m] 35) := (Below.heap_alloc _ _ _ (by simp)).trans (tblk_new _ _)
  have hr0 : ((w.alloc (.cells #[.slice ai ni ci, .slice ao nn nn, .int .i64 win, .bool bz, .bool cl, .bool wt, .int .i64 h, .int .i64 q, .int .i64 m] 35)).alloc (.cells #[.slice none 0 0, .slice none 0 0, .int .i64 0, .bool false, .bool false, .bool false, .int .i64 0, .int .i64 0, .int .i64 0] 35)).heap[w.heap.size + 1]? = some (.cells #[.slice none 0 0, .slice none 0 0, .int .i64 0, .bool false, .bool false, .bool false, .int .i64 0, .int .i64 0, .int .i64 0] 35) := by have k := tblk_new (w.alloc (.cells #[.slice ai ni ci, .slice ao nn nn, .int .i64 win, .bool bz, .bool cl, .bool wt, .int .i64 h, .int .i64 q, .int .i64 m] 35)) (.cells #[.slice none 0 0, .slice none 0 0, .int .i64 0, .bool false, .bool false, .bool false, .int .i64 0, .int .i64 0, .int .i64 0] 35); rw [hs1] at k; exact k
  have HW0 : Hid (Below w.heap.size w ((w.alloc (.cells #[.slice ai ni ci, .slice ao nn nn, .int .i64 win, .bool bz, .bool cl, .bool wt, .int .i64 h, .int .i64 q, .int .i64 m] 35)).alloc (.cells #[.slice none 0 0, .slice none 0 0, .int .i64 0, .bool false, .bool false, .bool false, .int .i64 0, .int .i64 0, .int .i64 0] 35))) := ((Below.refl w.heap.size w).alloc (Nat.le_refl _) _).alloc (by rw [hs1]; omega) _
  have hs0 : ((w.alloc (.cells #[.slice ai ni ci, .slice ao nn nn, .int .i64 win, .bool bz, .bool cl, .bool wt, .int .i64 h, .int .i64 q, .int .i64 m] 35)).alloc (.cells #[.slice none 0 0, .slice none 0 0, .int .i64 0, .bool false, .bool false, .bool false, .int .i64 0, .int .i64 0, .int .i64 0] 35)).heap.size = w.heap.size + 2 := by simp
  have HS0 := hidC hs0
  have HB0 := hidC hb0
  have HR0 := hidC hr0
  clear hs1 hs0 hb0 hr0
  have HWA : Hid (∀ W, Calls Tryz.prog 32 #[.agg #[.slice ai ni ci, .slice ao nn nn, .int .i64 win, .bool bz, .bool cl, .bool wt]] W fun e w' => e = .returned (.int .i64 wa) ∧ Below W.heap.size W w') := fun W => by rw [← hwa]; exact r18want_any ai ni ci ao nn nn win bz cl wt W
  have HT : Hid (∀ W, Calls Tryz.prog 42 #[.int .i64 n, .int .i64 0, .int .i64 wa] W fun e w' => e = .returned (.int .i64 nn) ∧ w' = W) := fun W => by rw [← hnn]; exact between_any n 0 wa W
  have HG := fun W : World => r18give_any ai ni ci ao nn nn win bz cl wt h q m nn W h0 h1 h2 (by omega) (by omega)
  unfold dv at HG
  have HG := hidC HG
  clear hwa hnn
  go_enter Tryz.func26, Tryz.ntmps26
  go_upto_region 1 with fail
  have hb := HB0.out
  have hr := HR0.out
  have HW := HW0
  have hws := Nat.le_of_eq HS0.out.symm
  clear HB0 HR0 HW0 HS0
  generalize ((w.alloc (.cells #[.slice ai ni ci, .slice ao nn nn, .int .i64 win, .bool bz, .bool cl, .bool wt, .int .i64 h, .int .i64 q, .int .i64 m] 35)).alloc (.cells #[.slice none 0 0, .slice none 0 0, .int .i64 0, .bool false, .bool false, .bool false, .int .i64 0, .int .i64 0, .int .i64 0] 35)) = w1 at *
  have a0 := tblk_cell (i := 0) hb rfl
  have az0 := lblk_z (i := 0) hb
  have a1 := tblk_cell (i := 1) hb rfl
  have az1 := lblk_z (i := 1) hb
  have a2 := tblk_cell (i := 2) hb rfl
  have az2 := lblk_z (i := 2) hb
  have a3 := tblk_cell (i := 3) hb rfl
  have az3 := lblk_z (i := 3) hb
  have a4 := tblk_cell (i := 4) hb rfl
  have az4 := lblk_z (i := 4) hb
  have a5 := tblk_cell (i := 5) hb rfl
  have az5 := lblk_z (i := 5) hb
  go_wp2_with fail
  refine (HWA.out _).mono ?_
  rintro e w2 ⟨rfl, B⟩
  have hb := (B.block _ (heap_lt hb)).trans hb
  have hr := (B.block _ (heap_lt hr)).trans hr
  have HW : Hid (Below w.heap.size w w2) := HW.out.trans (B.mono HW.out.size)
  have hws : w.heap.size + 2 ≤ w2.heap.size := Nat.le_trans hws B.size
  clear B
  clear a0 az0 a1 az1 a2 az2 a3 az3 a4 az4 a5 az5
  have a1 := tblk_cell (i := 1) hb rfl
  have az1 := lblk_z (i := 1) hb
  go_wp2_with fail
  refine (HT.out _).mono ?_
  rintro e w9 ⟨rfl, hw9⟩
  rw [hw9]
  clear hw9 HT HWA
  obtain ⟨e0, e1, e2, e3, e4, e5, e6, e7, e8⟩ := t9_cells hb
  go_wp2_with fail
  clear a1 az1
  refine (HG.out _).mono ?_
  rintro e w3 ⟨rfl, B⟩
  have hb := (B.block _ (heap_lt hb)).trans hb
  have hr := (B.block _ (heap_lt hr)).trans hr
  have HW : Hid (Below w.heap.size w w3) := HW.out.trans (B.mono HW.out.size)
  have hws : w.heap.size + 2 ≤ w3.heap.size := Nat.le_trans hws B.size
  clear B
  clear e0 e1 e2 e3 e4 e5 e6 e7 e8
  obtain ⟨a0, a1, a2, a3, a4, a5, a6, a7, a8⟩ := t9_cells hb
  obtain ⟨az0, az1, az2, az3, az4, az5, az6, az7, az8⟩ := t9_z hb
  have hb2 := nine_cells hb (.slice ai ni ci) (.slice ao nn nn) (.int .i64 win) (.bool bz) (.bool cl) (.bool wt) (.int .i64 (h - nn)) (.int .i64 q) (.int .i64 m)
  have hr2 : (nine w3 w.heap.size (.slice ai ni ci) (.slice ao nn nn) (.int .i64 win) (.bool bz) (.bool cl) (.bool wt) (.int .i64 (h - nn)) (.int .i64 q) (.int .i64 m)).heap[w.heap.size + 1]? = _ := (nine_away (show w.heap.size + 1 ≠ w.heap.size by omega)).trans hr
  have HW2 := hidC (nine_below (.slice ai ni ci) (.slice ao nn nn) (.int .i64 win) (.bool bz) (.bool cl) (.bool wt) (.int .i64 (h - nn)) (.int .i64 q) (.int .i64 m) HW.out (Nat.le_refl _))
  have hw2 : (nine w3 w.heap.size (.slice ai ni ci) (.slice ao nn nn) (.int .i64 win) (.bool bz) (.bool cl) (.bool wt) (.int .i64 (h - nn)) (.int .i64 q) (.int .i64 m)).heap.size = w3.heap.size := by unfold nine; simp [World.setCell]
  unfold nine at hb2 hr2 HW2 hw2
  have hws2 : w.heap.size + 2 ≤ (((((((((w3.setCell ⟨w.heap.size, 0, none⟩ (.slice ai ni ci)).setCell ⟨w.heap.size, 1, none⟩ (.slice ao nn nn)).setCell ⟨w.heap.size, 2, none⟩ (.int .i64 win)).setCell ⟨w.heap.size, 3, none⟩ (.bool bz)).setCell ⟨w.heap.size, 4, none⟩ (.bool cl)).setCell ⟨w.heap.size, 5, none⟩ (.bool wt)).setCell ⟨w.heap.size, 6, none⟩ (.int .i64 (h - nn))).setCell ⟨w.heap.size, 7, none⟩ (.int .i64 q)).setCell ⟨w.heap.size, 8, none⟩ (.int .i64 m)).heap.size := by rw [hw2]; exact hws
  clear hw2 hws
  go_upto_region 4 with fail
  generalize (((((((((w3.setCell ⟨w.heap.size, 0, none⟩ (.slice ai ni ci)).setCell ⟨w.heap.size, 1, none⟩ (.slice ao nn nn)).setCell ⟨w.heap.size, 2, none⟩ (.int .i64 win)).setCell ⟨w.heap.size, 3, none⟩ (.bool bz)).setCell ⟨w.heap.size, 4, none⟩ (.bool cl)).setCell ⟨w.heap.size, 5, none⟩ (.bool wt)).setCell ⟨w.heap.size, 6, none⟩ (.int .i64 (h - nn))).setCell ⟨w.heap.size, 7, none⟩ (.int .i64 q)).setCell ⟨w.heap.size, 8, none⟩ (.int .i64 m)) = w4 at *
  clear a0 az0 a1 az1 a2 az2 a3 az3 a4 az4 a5 az5 a6 az6 a7 az7 a8 az8 hb hr HW
  have hb := hb2
  have hr := hr2
  have HW := HW2
  have hws := hws2
  clear hb2 hr2 HW2 hws2
  have a1 := tblk_cell (i := 1) hb rfl
  have az1 := lblk_z (i := 1) hb
  have hb2 := one9_1 hb (.slice ao 0 0)
  have hr2 : (w4.setCell ⟨w.heap.size, 1, none⟩ (.slice ao 0 0)).heap[w.heap.size + 1]? = _ := (set_away (i := 1) (v := .slice ao 0 0) (show ¬ w.heap.size + 1 = w.heap.size by omega)).trans hr
  have HW2 : Hid (Below w.heap.size w (w4.setCell ⟨w.heap.size, 1, none⟩ (.slice ao 0 0))) := HW.out.setCell (p := ⟨w.heap.size, 1, none⟩) (Nat.le_refl _) _
  have hw2 : (w4.setCell ⟨w.heap.size, 1, none⟩ (.slice ao 0 0)).heap.size = w4.heap.size := by simp [World.setCell]
  have hws2 : w.heap.size + 2 ≤ (w4.setCell ⟨w.heap.size, 1, none⟩ (.slice ao 0 0)).heap.size := by rw [hw2]; exact hws
  clear hw2 hws
  go_upto_region 5 with fail
  generalize (w4.setCell ⟨w.heap.size, 1, none⟩ (.slice ao 0 0)) = w5 at *
  clear a1 az1 hb hr HW
  have hb := hb2
  have hr := hr2
  have HW := HW2
  have hws := hws2
  clear hb2 hr2 HW2 hws2
  have a2 := tblk_cell (i := 2) hb rfl
  have az2 := lblk_z (i := 2) hb
  have hb2 := one9_2 hb (.int .i64 (win - nn))
  have hr2 : (w5.setCell ⟨w.heap.size, 2, none⟩ (.int .i64 (win - nn))).heap[w.heap.size + 1]? = _ := (set_away (i := 2) (v := .int .i64 (win - nn)) (show ¬ w.heap.size + 1 = w.heap.size by omega)).trans hr
  have HW2 : Hid (Below w.heap.size w (w5.setCell ⟨w.heap.size, 2, none⟩ (.int .i64 (win - nn)))) := HW.out.setCell (p := ⟨w.heap.size, 2, none⟩) (Nat.le_refl _) _
  have hw2 : (w5.setCell ⟨w.heap.size, 2, none⟩ (.int .i64 (win - nn))).heap.size = w5.heap.size := by simp [World.setCell]
  have hws2 : w.heap.size + 2 ≤ (w5.setCell ⟨w.heap.size, 2, none⟩ (.int .i64 (win - nn))).heap.size := by rw [hw2]; exact hws
  clear hw2 hws
  clear hb hr HW
  have hb := hb2
  have hr := hr2
  have HW := HW2
  have hws := hws2
  clear hb2 hr2 HW2 hws2
  obtain ⟨e0, e1, e2, e3, e4, e5, e6, e7, e8⟩ := t9_cells hb
  obtain ⟨c0, c1, c2, c3, c4, c5, c6, c7, c8⟩ := t9_cells hr
  obtain ⟨cz0, cz1, cz2, cz3, cz4, cz5, cz6, cz7, cz8⟩ := t9_z hr
  have HRB := hidC (nine_cells hr (.slice ai ni ci) (.slice ao 0 0) (.int .i64 (win - nn)) (.bool bz) (.bool cl) (.bool wt) (.int .i64 (h - nn)) (.int .i64 q) (.int .i64 m))
  have HEB := hidC (nine_below (.slice ai ni ci) (.slice ao 0 0) (.int .i64 (win - nn)) (.bool bz) (.bool cl) (.bool wt) (.int .i64 (h - nn)) (.int .i64 q) (.int .i64 m) HW.out (show w.heap.size ≤ (w.heap.size + 1) by first | exact Nat.le_refl _ | exact Nat.le_succ _ | omega))
  have hrb := HRB.out
  obtain ⟨r0, r1, r2, r3, r4, r5, r6, r7, r8⟩ := t9_cells hrb
  unfold nine at r0 r1 r2 r3 r4 r5 r6 r7 r8 HEB
  clear hrb HRB hb hr HW hws HG
  go_wp2
  refine bodyPost_ret (v := .tuple #[.agg #[.slice ai ni ci, .slice ao 0 0, .int .i64 (win - nn), .bool bz, .bool cl, .bool wt, .int .i64 (h - nn), .int .i64 q, .int .i64 m], .slice ao nn nn]) (by simp [results, Tryz.results26, go_sem, r0, r1, r2, r3, r4, r5, r6, r7, r8]) rfl ?_
  exact ⟨rfl, HEB.out⟩
set_option maxRecDepth 100000 in
set_option maxHeartbeats 4000000 in
theorem r18write_more (ai : Option Addr) (ni ci : Nat) (ao : Option Addr) (no co : Nat) (win : Int) (bz cl wt : Bool) (h q m : Int) (n wa : Int) (nn : Nat) (w : World) (h0 : 0 ≤ h) (h1 : h ≤ m) (h2 : m ≤ 1099511627776) (hwa : btw no 0 win = wa) (hnn : btw n 0 wa = nn) (g1 : nn ≤ no) (g2 : no ≤ co) (g3 : (no : Int) ≤ h) (hw : (nn : Int) ≤ win) (hwb : win ≤ 1073741824) (hco : co ≤ 9223372036854775807) (hl : ¬ co = nn) :
    Calls Tryz.prog 26 #[.agg (dv ai ni ci ao no co win bz cl wt h q m), .int .i64 n] w fun e w' => e = .returned (.tuple #[.agg (dv ai ni ci (Option.map (fun x => x.add nn) ao) (no - nn) (co - nn) (win - nn) bz cl wt (h - nn) q m), .slice ao nn co]) ∧ Below w.heap.size w w' := by
  unfold dv
  have hs1 : (w.alloc (.cells #[.slice ai ni ci, .slice ao no co, .int .i64 win, .bool bz, .bool cl, .bool wt, .int .i64 h, .int .i64 q, .int .i64 m] 35)).heap.size = w.heap.size + 1 := by simp
  have hb0 : ((w.alloc (.cells #[.slice ai ni ci, .slice ao no co, .int .i64 win, .bool bz, .bool cl, .bool wt, .int .i64 h, .int .i64 q, .int .i64 m] 35)).alloc (.cells #[.slice none 0 0, .slice none 0 0, .int .i64 0, .bool false, .bool false, .bool false, .int .i64 0, .int .i64 0, .int .i64 0] 35)).heap[w.heap.size]? = some (.cells #[.slice ai ni ci, .slice ao no co, .int .i64 win, .bool bz, .bool cl, .bool wt, .int .i64 h, .int .i64 q, .int .i64 m] 35) := (Below.heap_alloc _ _ _ (by simp)).trans (tblk_new _ _)
  have hr0 : ((w.alloc (.cells #[.slice ai ni ci, .slice ao no co, .int .i64 win, .bool bz, .bool cl, .bool wt, .int .i64 h, .int .i64 q, .int .i64 m] 35)).alloc (.cells #[.slice none 0 0, .slice none 0 0, .int .i64 0, .bool false, .bool false, .bool false, .int .i64 0, .int .i64 0, .int .i64 0] 35)).heap[w.heap.size + 1]? = some (.cells #[.slice none 0 0, .slice none 0 0, .int .i64 0, .bool false, .bool false, .bool false, .int .i64 0, .int .i64 0, .int .i64 0] 35) := by have k := tblk_new (w.alloc (.cells #[.slice ai ni ci, .slice ao no co, .int .i64 win, .bool bz, .bool cl, .bool wt, .int .i64 h, .int .i64 q, .int .i64 m] 35)) (.cells #[.slice none 0 0, .slice none 0 0, .int .i64 0, .bool false, .bool false, .bool false, .int .i64 0, .int .i64 0, .int .i64 0] 35); rw [hs1] at k; exact k
  have HW0 : Hid (Below w.heap.size w ((w.alloc (.cells #[.slice ai ni ci, .slice ao no co, .int .i64 win, .bool bz, .bool cl, .bool wt, .int .i64 h, .int .i64 q, .int .i64 m] 35)).alloc (.cells #[.slice none 0 0, .slice none 0 0, .int .i64 0, .bool false, .bool false, .bool false, .int .i64 0, .int .i64 0, .int .i64 0] 35))) := ((Below.refl w.heap.size w).alloc (Nat.le_refl _) _).alloc (by rw [hs1]; omega) _
  have hs0 : ((w.alloc (.cells #[.slice ai ni ci, .slice ao no co, .int .i64 win, .bool bz, .bool cl, .bool wt, .int .i64 h, .int .i64 q, .int .i64 m] 35)).alloc (.cells #[.slice none 0 0, .slice none 0 0, .int .i64 0, .bool false, .bool false, .bool false, .int .i64 0, .int .i64 0, .int .i64 0] 35)).heap.size = w.heap.size + 2 := by simp
  have HS0 := hidC hs0
  have HB0 := hidC hb0
  have HR0 := hidC hr0
  clear hs1 hs0 hb0 hr0
  have HWA : Hid (∀ W, Calls Tryz.prog 32 #[.agg #[.slice ai ni ci, .slice ao no co, .int .i64 win, .bool bz, .bool cl, .bool wt]] W fun e w' => e = .returned (.int .i64 wa) ∧ Below W.heap.size W w') := fun W => by rw [← hwa]; exact r18want_any ai ni ci ao no co win bz cl wt W
  have HT : Hid (∀ W, Calls Tryz.prog 42 #[.int .i64 n, .int .i64 0, .int .i64 wa] W fun e w' => e = .returned (.int .i64 nn) ∧ w' = W) := fun W => by rw [← hnn]; exact between_any n 0 wa W
  have HG := fun W : World => r18give_any ai ni ci ao no co win bz cl wt h q m nn W h0 h1 h2 (by omega) (by omega)
  unfold dv at HG
  have HG := hidC HG
  clear hwa hnn
  go_enter Tryz.func26, Tryz.ntmps26
  go_upto_region 1 with fail
  have hb := HB0.out
  have hr := HR0.out
  have HW := HW0
  have hws := Nat.le_of_eq HS0.out.symm
  clear HB0 HR0 HW0 HS0
  generalize ((w.alloc (.cells #[.slice ai ni ci, .slice ao no co, .int .i64 win, .bool bz, .bool cl, .bool wt, .int .i64 h, .int .i64 q, .int .i64 m] 35)).alloc (.cells #[.slice none 0 0, .slice none 0 0, .int .i64 0, .bool false, .bool false, .bool false, .int .i64 0, .int .i64 0, .int .i64 0] 35)) = w1 at *
  have a0 := tblk_cell (i := 0) hb rfl
  have az0 := lblk_z (i := 0) hb
  have a1 := tblk_cell (i := 1) hb rfl
  have az1 := lblk_z (i := 1) hb
  have a2 := tblk_cell (i := 2) hb rfl
  have az2 := lblk_z (i := 2) hb
  have a3 := tblk_cell (i := 3) hb rfl
  have az3 := lblk_z (i := 3) hb
  have a4 := tblk_cell (i := 4) hb rfl
  have az4 := lblk_z (i := 4) hb
  have a5 := tblk_cell (i := 5) hb rfl
  have az5 := lblk_z (i := 5) hb
  go_wp2_with fail
  refine (HWA.out _).mono ?_
  rintro e w2 ⟨rfl, B⟩
  have hb := (B.block _ (heap_lt hb)).trans hb
  have hr := (B.block _ (heap_lt hr)).trans hr
  have HW : Hid (Below w.heap.size w w2) := HW.out.trans (B.mono HW.out.size)
  have hws : w.heap.size + 2 ≤ w2.heap.size := Nat.le_trans hws B.size
  clear B
  clear a0 az0 a1 az1 a2 az2 a3 az3 a4 az4 a5 az5
  have a1 := tblk_cell (i := 1) hb rfl
  have az1 := lblk_z (i := 1) hb
  go_wp2_with fail
  refine (HT.out _).mono ?_
  rintro e w9 ⟨rfl, hw9⟩
  rw [hw9]
  clear hw9 HT HWA
  obtain ⟨e0, e1, e2, e3, e4, e5, e6, e7, e8⟩ := t9_cells hb
  go_wp2_with fail
  clear a1 az1
  refine (HG.out _).mono ?_
  rintro e w3 ⟨rfl, B⟩
  have hb := (B.block _ (heap_lt hb)).trans hb
  have hr := (B.block _ (heap_lt hr)).trans hr
  have HW : Hid (Below w.heap.size w w3) := HW.out.trans (B.mono HW.out.size)
  have hws : w.heap.size + 2 ≤ w3.heap.size := Nat.le_trans hws B.size
  clear B
  clear e0 e1 e2 e3 e4 e5 e6 e7 e8
  obtain ⟨a0, a1, a2, a3, a4, a5, a6, a7, a8⟩ := t9_cells hb
  obtain ⟨az0, az1, az2, az3, az4, az5, az6, az7, az8⟩ := t9_z hb
  have hb2 := nine_cells hb (.slice ai ni ci) (.slice ao no co) (.int .i64 win) (.bool bz) (.bool cl) (.bool wt) (.int .i64 (h - nn)) (.int .i64 q) (.int .i64 m)
  have hr2 : (nine w3 w.heap.size (.slice ai ni ci) (.slice ao no co) (.int .i64 win) (.bool bz) (.bool cl) (.bool wt) (.int .i64 (h - nn)) (.int .i64 q) (.int .i64 m)).heap[w.heap.size + 1]? = _ := (nine_away (show w.heap.size + 1 ≠ w.heap.size by omega)).trans hr
  have HW2 := hidC (nine_below (.slice ai ni ci) (.slice ao no co) (.int .i64 win) (.bool bz) (.bool cl) (.bool wt) (.int .i64 (h - nn)) (.int .i64 q) (.int .i64 m) HW.out (Nat.le_refl _))
  have hw2 : (nine w3 w.heap.size (.slice ai ni ci) (.slice ao no co) (.int .i64 win) (.bool bz) (.bool cl) (.bool wt) (.int .i64 (h - nn)) (.int .i64 q) (.int .i64 m)).heap.size = w3.heap.size := by unfold nine; simp [World.setCell]
  unfold nine at hb2 hr2 HW2 hw2
  have hws2 : w.heap.size + 2 ≤ (((((((((w3.setCell ⟨w.heap.size, 0, none⟩ (.slice ai ni ci)).setCell ⟨w.heap.size, 1, none⟩ (.slice ao no co)).setCell ⟨w.heap.size, 2, none⟩ (.int .i64 win)).setCell ⟨w.heap.size, 3, none⟩ (.bool bz)).setCell ⟨w.heap.size, 4, none⟩ (.bool cl)).setCell ⟨w.heap.size, 5, none⟩ (.bool wt)).setCell ⟨w.heap.size, 6, none⟩ (.int .i64 (h - nn))).setCell ⟨w.heap.size, 7, none⟩ (.int .i64 q)).setCell ⟨w.heap.size, 8, none⟩ (.int .i64 m)).heap.size := by rw [hw2]; exact hws
  clear hw2 hws
  go_upto_region 4 with fail
  generalize (((((((((w3.setCell ⟨w.heap.size, 0, none⟩ (.slice ai ni ci)).setCell ⟨w.heap.size, 1, none⟩ (.slice ao no co)).setCell ⟨w.heap.size, 2, none⟩ (.int .i64 win)).setCell ⟨w.heap.size, 3, none⟩ (.bool bz)).setCell ⟨w.heap.size, 4, none⟩ (.bool cl)).setCell ⟨w.heap.size, 5, none⟩ (.bool wt)).setCell ⟨w.heap.size, 6, none⟩ (.int .i64 (h - nn))).setCell ⟨w.heap.size, 7, none⟩ (.int .i64 q)).setCell ⟨w.heap.size, 8, none⟩ (.int .i64 m)) = w4 at *
  clear a0 az0 a1 az1 a2 az2 a3 az3 a4 az4 a5 az5 a6 az6 a7 az7 a8 az8 hb hr HW
  have hb := hb2
  have hr := hr2
  have HW := HW2
  have hws := hws2
  clear hb2 hr2 HW2 hws2
  have a1 := tblk_cell (i := 1) hb rfl
  have az1 := lblk_z (i := 1) hb
  have hb2 := one9_1 hb (.slice (Option.map (fun x => x.add nn) ao) (no - nn) (co - nn))
  have hr2 : (w4.setCell ⟨w.heap.size, 1, none⟩ (.slice (Option.map (fun x => x.add nn) ao) (no - nn) (co - nn))).heap[w.heap.size + 1]? = _ := (set_away (i := 1) (v := .slice (Option.map (fun x => x.add nn) ao) (no - nn) (co - nn)) (show ¬ w.heap.size + 1 = w.heap.size by omega)).trans hr
  have HW2 : Hid (Below w.heap.size w (w4.setCell ⟨w.heap.size, 1, none⟩ (.slice (Option.map (fun x => x.add nn) ao) (no - nn) (co - nn)))) := HW.out.setCell (p := ⟨w.heap.size, 1, none⟩) (Nat.le_refl _) _
  have hw2 : (w4.setCell ⟨w.heap.size, 1, none⟩ (.slice (Option.map (fun x => x.add nn) ao) (no - nn) (co - nn))).heap.size = w4.heap.size := by simp [World.setCell]
  have hws2 : w.heap.size + 2 ≤ (w4.setCell ⟨w.heap.size, 1, none⟩ (.slice (Option.map (fun x => x.add nn) ao) (no - nn) (co - nn))).heap.size := by rw [hw2]; exact hws
  clear hw2 hws
  go_upto_region 5 with fail
  generalize (w4.setCell ⟨w.heap.size, 1, none⟩ (.slice (Option.map (fun x => x.add nn) ao) (no - nn) (co - nn))) = w5 at *
  clear a1 az1 hb hr HW
  have hb := hb2
  have hr := hr2
  have HW := HW2
  have hws := hws2
  clear hb2 hr2 HW2 hws2
  have a2 := tblk_cell (i := 2) hb rfl
  have az2 := lblk_z (i := 2) hb
  have hb2 := one9_2 hb (.int .i64 (win - nn))
  have hr2 : (w5.setCell ⟨w.heap.size, 2, none⟩ (.int .i64 (win - nn))).heap[w.heap.size + 1]? = _ := (set_away (i := 2) (v := .int .i64 (win - nn)) (show ¬ w.heap.size + 1 = w.heap.size by omega)).trans hr
  have HW2 : Hid (Below w.heap.size w (w5.setCell ⟨w.heap.size, 2, none⟩ (.int .i64 (win - nn)))) := HW.out.setCell (p := ⟨w.heap.size, 2, none⟩) (Nat.le_refl _) _
  have hw2 : (w5.setCell ⟨w.heap.size, 2, none⟩ (.int .i64 (win - nn))).heap.size = w5.heap.size := by simp [World.setCell]
  have hws2 : w.heap.size + 2 ≤ (w5.setCell ⟨w.heap.size, 2, none⟩ (.int .i64 (win - nn))).heap.size := by rw [hw2]; exact hws
  clear hw2 hws
  clear hb hr HW
  have hb := hb2
  have hr := hr2
  have HW := HW2
  have hws := hws2
  clear hb2 hr2 HW2 hws2
  obtain ⟨e0, e1, e2, e3, e4, e5, e6, e7, e8⟩ := t9_cells hb
  obtain ⟨c0, c1, c2, c3, c4, c5, c6, c7, c8⟩ := t9_cells hr
  obtain ⟨cz0, cz1, cz2, cz3, cz4, cz5, cz6, cz7, cz8⟩ := t9_z hr
  have HRB := hidC (nine_cells hr (.slice ai ni ci) (.slice (Option.map (fun x => x.add nn) ao) (no - nn) (co - nn)) (.int .i64 (win - nn)) (.bool bz) (.bool cl) (.bool wt) (.int .i64 (h - nn)) (.int .i64 q) (.int .i64 m))
  have HEB := hidC (nine_below (.slice ai ni ci) (.slice (Option.map (fun x => x.add nn) ao) (no - nn) (co - nn)) (.int .i64 (win - nn)) (.bool bz) (.bool cl) (.bool wt) (.int .i64 (h - nn)) (.int .i64 q) (.int .i64 m) HW.out (show w.heap.size ≤ (w.heap.size + 1) by first | exact Nat.le_refl _ | exact Nat.le_succ _ | omega))
  have hrb := HRB.out
  obtain ⟨r0, r1, r2, r3, r4, r5, r6, r7, r8⟩ := t9_cells hrb
  unfold nine at r0 r1 r2 r3 r4 r5 r6 r7 r8 HEB
  clear hrb HRB hb hr HW hws HG
  go_wp2
  refine bodyPost_ret (v := .tuple #[.agg #[.slice ai ni ci, .slice (Option.map (fun x => x.add nn) ao) (no - nn) (co - nn), .int .i64 (win - nn), .bool bz, .bool cl, .bool wt, .int .i64 (h - nn), .int .i64 q, .int .i64 m], .slice ao nn co]) (by simp [results, Tryz.results26, go_sem, r0, r1, r2, r3, r4, r5, r6, r7, r8]) rfl ?_
  exact ⟨rfl, HEB.out⟩
set_option maxRecDepth 100000 in
set_option maxHeartbeats 4000000 in
theorem r18waits_bz (ai : Option Addr) (ni ci : Nat) (ao : Option Addr) (no co : Nat) (win : Int) (cl wt : Bool) (h q m : Int) (w : World) :
    Calls Tryz.prog 18 #[.agg (dv ai ni ci ao no co win true cl wt h q m)] w fun e w' => e = .returned (.tuple #[.agg (dv ai ni ci ao no co win true cl wt h q m), .bool false]) ∧ Below w.heap.size w w' := by
  unfold dv
  have hs1 : (w.alloc (.cells #[.slice ai ni ci, .slice ao no co, .int .i64 win, .bool true, .bool cl, .bool wt, .int .i64 h, .int .i64 q, .int .i64 m] 35)).heap.size = w.heap.size + 1 := by simp
  have hb0 : ((w.alloc (.cells #[.slice ai ni ci, .slice ao no co, .int .i64 win, .bool true, .bool cl, .bool wt, .int .i64 h, .int .i64 q, .int .i64 m] 35)).alloc (.cells #[.slice none 0 0, .slice none 0 0, .int .i64 0, .bool false, .bool false, .bool false, .int .i64 0, .int .i64 0, .int .i64 0] 35)).heap[w.heap.size]? = some (.cells #[.slice ai ni ci, .slice ao no co, .int .i64 win, .bool true, .bool cl, .bool wt, .int .i64 h, .int .i64 q, .int .i64 m] 35) := (Below.heap_alloc _ _ _ (by simp)).trans (tblk_new _ _)
  have hr0 : ((w.alloc (.cells #[.slice ai ni ci, .slice ao no co, .int .i64 win, .bool true, .bool cl, .bool wt, .int .i64 h, .int .i64 q, .int .i64 m] 35)).alloc (.cells #[.slice none 0 0, .slice none 0 0, .int .i64 0, .bool false, .bool false, .bool false, .int .i64 0, .int .i64 0, .int .i64 0] 35)).heap[w.heap.size + 1]? = some (.cells #[.slice none 0 0, .slice none 0 0, .int .i64 0, .bool false, .bool false, .bool false, .int .i64 0, .int .i64 0, .int .i64 0] 35) := by have k := tblk_new (w.alloc (.cells #[.slice ai ni ci, .slice ao no co, .int .i64 win, .bool true, .bool cl, .bool wt, .int .i64 h, .int .i64 q, .int .i64 m] 35)) (.cells #[.slice none 0 0, .slice none 0 0, .int .i64 0, .bool false, .bool false, .bool false, .int .i64 0, .int .i64 0, .int .i64 0] 35); rw [hs1] at k; exact k
  have HW0 : Hid (Below w.heap.size w ((w.alloc (.cells #[.slice ai ni ci, .slice ao no co, .int .i64 win, .bool true, .bool cl, .bool wt, .int .i64 h, .int .i64 q, .int .i64 m] 35)).alloc (.cells #[.slice none 0 0, .slice none 0 0, .int .i64 0, .bool false, .bool false, .bool false, .int .i64 0, .int .i64 0, .int .i64 0] 35))) := ((Below.refl w.heap.size w).alloc (Nat.le_refl _) _).alloc (by rw [hs1]; omega) _
  have hs0 : ((w.alloc (.cells #[.slice ai ni ci, .slice ao no co, .int .i64 win, .bool true, .bool cl, .bool wt, .int .i64 h, .int .i64 q, .int .i64 m] 35)).alloc (.cells #[.slice none 0 0, .slice none 0 0, .int .i64 0, .bool false, .bool false, .bool false, .int .i64 0, .int .i64 0, .int .i64 0] 35)).heap.size = w.heap.size + 2 := by simp
  have HS0 := hidC hs0
  have HB0 := hidC hb0
  have HR0 := hidC hr0
  clear hs1 hs0 hb0 hr0
  go_enter Tryz.func18, Tryz.ntmps18
  go_upto_region 1 with fail
  have hb := HB0.out
  have hr := HR0.out
  have HW := HW0
  have hws := Nat.le_of_eq HS0.out.symm
  clear HB0 HR0 HW0 HS0
  generalize ((w.alloc (.cells #[.slice ai ni ci, .slice ao no co, .int .i64 win, .bool true, .bool cl, .bool wt, .int .i64 h, .int .i64 q, .int .i64 m] 35)).alloc (.cells #[.slice none 0 0, .slice none 0 0, .int .i64 0, .bool false, .bool false, .bool false, .int .i64 0, .int .i64 0, .int .i64 0] 35)) = w1 at *
  have a3 := tblk_cell (i := 3) hb rfl
  have az3 := lblk_z (i := 3) hb
  obtain ⟨e0, e1, e2, e3, e4, e5, e6, e7, e8⟩ := t9_cells hb
  obtain ⟨c0, c1, c2, c3, c4, c5, c6, c7, c8⟩ := t9_cells hr
  obtain ⟨cz0, cz1, cz2, cz3, cz4, cz5, cz6, cz7, cz8⟩ := t9_z hr
  have HRB := hidC (nine_cells hr (.slice ai ni ci) (.slice ao no co) (.int .i64 win) (.bool true) (.bool cl) (.bool wt) (.int .i64 h) (.int .i64 q) (.int .i64 m))
  have HEB := hidC (nine_below (.slice ai ni ci) (.slice ao no co) (.int .i64 win) (.bool true) (.bool cl) (.bool wt) (.int .i64 h) (.int .i64 q) (.int .i64 m) HW.out (show w.heap.size ≤ (w.heap.size + 1) by first | exact Nat.le_refl _ | exact Nat.le_succ _ | omega))
  have hrb := HRB.out
  obtain ⟨r0, r1, r2, r3, r4, r5, r6, r7, r8⟩ := t9_cells hrb
  unfold nine at r0 r1 r2 r3 r4 r5 r6 r7 r8 HEB
  clear hrb HRB hb hr HW hws 
  go_wp2
  refine bodyPost_ret (v := .tuple #[.agg #[.slice ai ni ci, .slice ao no co, .int .i64 win, .bool true, .bool cl, .bool wt, .int .i64 h, .int .i64 q, .int .i64 m], .bool false]) (by simp [results, Tryz.results18, go_sem, r0, r1, r2, r3, r4, r5, r6, r7, r8]) rfl ?_
  exact ⟨rfl, HEB.out⟩
set_option maxRecDepth 100000 in
set_option maxHeartbeats 4000000 in
theorem r18waits_cl (ai : Option Addr) (ni ci : Nat) (ao : Option Addr) (no co : Nat) (win : Int) (wt : Bool) (h q m : Int) (w : World) :
    Calls Tryz.prog 18 #[.agg (dv ai ni ci ao no co win false true wt h q m)] w fun e w' => e = .returned (.tuple #[.agg (dv ai ni ci ao no co win false true wt h q m), .bool false]) ∧ Below w.heap.size w w' := by
  unfold dv
  have hs1 : (w.alloc (.cells #[.slice ai ni ci, .slice ao no co, .int .i64 win, .bool false, .bool true, .bool wt, .int .i64 h, .int .i64 q, .int .i64 m] 35)).heap.size = w.heap.size + 1 := by simp
  have hb0 : ((w.alloc (.cells #[.slice ai ni ci, .slice ao no co, .int .i64 win, .bool false, .bool true, .bool wt, .int .i64 h, .int .i64 q, .int .i64 m] 35)).alloc (.cells #[.slice none 0 0, .slice none 0 0, .int .i64 0, .bool false, .bool false, .bool false, .int .i64 0, .int .i64 0, .int .i64 0] 35)).heap[w.heap.size]? = some (.cells #[.slice ai ni ci, .slice ao no co, .int .i64 win, .bool false, .bool true, .bool wt, .int .i64 h, .int .i64 q, .int .i64 m] 35) := (Below.heap_alloc _ _ _ (by simp)).trans (tblk_new _ _)
  have hr0 : ((w.alloc (.cells #[.slice ai ni ci, .slice ao no co, .int .i64 win, .bool false, .bool true, .bool wt, .int .i64 h, .int .i64 q, .int .i64 m] 35)).alloc (.cells #[.slice none 0 0, .slice none 0 0, .int .i64 0, .bool false, .bool false, .bool false, .int .i64 0, .int .i64 0, .int .i64 0] 35)).heap[w.heap.size + 1]? = some (.cells #[.slice none 0 0, .slice none 0 0, .int .i64 0, .bool false, .bool false, .bool false, .int .i64 0, .int .i64 0, .int .i64 0] 35) := by have k := tblk_new (w.alloc (.cells #[.slice ai ni ci, .slice ao no co, .int .i64 win, .bool false, .bool true, .bool wt, .int .i64 h, .int .i64 q, .int .i64 m] 35)) (.cells #[.slice none 0 0, .slice none 0 0, .int .i64 0, .bool false, .bool false, .bool false, .int .i64 0, .int .i64 0, .int .i64 0] 35); rw [hs1] at k; exact k
  have HW0 : Hid (Below w.heap.size w ((w.alloc (.cells #[.slice ai ni ci, .slice ao no co, .int .i64 win, .bool false, .bool true, .bool wt, .int .i64 h, .int .i64 q, .int .i64 m] 35)).alloc (.cells #[.slice none 0 0, .slice none 0 0, .int .i64 0, .bool false, .bool false, .bool false, .int .i64 0, .int .i64 0, .int .i64 0] 35))) := ((Below.refl w.heap.size w).alloc (Nat.le_refl _) _).alloc (by rw [hs1]; omega) _
  have hs0 : ((w.alloc (.cells #[.slice ai ni ci, .slice ao no co, .int .i64 win, .bool false, .bool true, .bool wt, .int .i64 h, .int .i64 q, .int .i64 m] 35)).alloc (.cells #[.slice none 0 0, .slice none 0 0, .int .i64 0, .bool false, .bool false, .bool false, .int .i64 0, .int .i64 0, .int .i64 0] 35)).heap.size = w.heap.size + 2 := by simp
  have HS0 := hidC hs0
  have HB0 := hidC hb0
  have HR0 := hidC hr0
  clear hs1 hs0 hb0 hr0
  go_enter Tryz.func18, Tryz.ntmps18
  go_upto_region 1 with fail
  have hb := HB0.out
  have hr := HR0.out
  have HW := HW0
  have hws := Nat.le_of_eq HS0.out.symm
  clear HB0 HR0 HW0 HS0
  generalize ((w.alloc (.cells #[.slice ai ni ci, .slice ao no co, .int .i64 win, .bool false, .bool true, .bool wt, .int .i64 h, .int .i64 q, .int .i64 m] 35)).alloc (.cells #[.slice none 0 0, .slice none 0 0, .int .i64 0, .bool false, .bool false, .bool false, .int .i64 0, .int .i64 0, .int .i64 0] 35)) = w1 at *
  have a3 := tblk_cell (i := 3) hb rfl
  have az3 := lblk_z (i := 3) hb
  have a4 := tblk_cell (i := 4) hb rfl
  have az4 := lblk_z (i := 4) hb
  obtain ⟨e0, e1, e2, e3, e4, e5, e6, e7, e8⟩ := t9_cells hb
  obtain ⟨c0, c1, c2, c3, c4, c5, c6, c7, c8⟩ := t9_cells hr
  obtain ⟨cz0, cz1, cz2, cz3, cz4, cz5, cz6, cz7, cz8⟩ := t9_z hr
  have HRB := hidC (nine_cells hr (.slice ai ni ci) (.slice ao no co) (.int .i64 win) (.bool false) (.bool true) (.bool wt) (.int .i64 h) (.int .i64 q) (.int .i64 m))
  have HEB := hidC (nine_below (.slice ai ni ci) (.slice ao no co) (.int .i64 win) (.bool false) (.bool true) (.bool wt) (.int .i64 h) (.int .i64 q) (.int .i64 m) HW.out (show w.heap.size ≤ (w.heap.size + 1) by first | exact Nat.le_refl _ | exact Nat.le_succ _ | omega))
  have hrb := HRB.out
  obtain ⟨r0, r1, r2, r3, r4, r5, r6, r7, r8⟩ := t9_cells hrb
  unfold nine at r0 r1 r2 r3 r4 r5 r6 r7 r8 HEB
  clear hrb HRB hb hr HW hws 
  go_wp2
  refine bodyPost_ret (v := .tuple #[.agg #[.slice ai ni ci, .slice ao no co, .int .i64 win, .bool false, .bool true, .bool wt, .int .i64 h, .int .i64 q, .int .i64 m], .bool false]) (by simp [results, Tryz.results18, go_sem, r0, r1, r2, r3, r4, r5, r6, r7, r8]) rfl ?_
  exact ⟨rfl, HEB.out⟩
set_option maxRecDepth 100000 in
set_option maxHeartbeats 4000000 in
theorem r18waits_wt (ai : Option Addr) (ni ci : Nat) (ao : Option Addr) (no co : Nat) (win : Int)  (h q m : Int) (w : World) :
    Calls Tryz.prog 18 #[.agg (dv ai ni ci ao no co win false false true h q m)] w fun e w' => e = .returned (.tuple #[.agg (dv ai ni ci ao no co win false false true h q m), .bool false]) ∧ Below w.heap.size w w' := by
  unfold dv
  have hs1 : (w.alloc (.cells #[.slice ai ni ci, .slice ao no co, .int .i64 win, .bool false, .bool false, .bool true, .int .i64 h, .int .i64 q, .int .i64 m] 35)).heap.size = w.heap.size + 1 := by simp
  have hb0 : ((w.alloc (.cells #[.slice ai ni ci, .slice ao no co, .int .i64 win, .bool false, .bool false, .bool true, .int .i64 h, .int .i64 q, .int .i64 m] 35)).alloc (.cells #[.slice none 0 0, .slice none 0 0, .int .i64 0, .bool false, .bool false, .bool false, .int .i64 0, .int .i64 0, .int .i64 0] 35)).heap[w.heap.size]? = some (.cells #[.slice ai ni ci, .slice ao no co, .int .i64 win, .bool false, .bool false, .bool true, .int .i64 h, .int .i64 q, .int .i64 m] 35) := (Below.heap_alloc _ _ _ (by simp)).trans (tblk_new _ _)
  have hr0 : ((w.alloc (.cells #[.slice ai ni ci, .slice ao no co, .int .i64 win, .bool false, .bool false, .bool true, .int .i64 h, .int .i64 q, .int .i64 m] 35)).alloc (.cells #[.slice none 0 0, .slice none 0 0, .int .i64 0, .bool false, .bool false, .bool false, .int .i64 0, .int .i64 0, .int .i64 0] 35)).heap[w.heap.size + 1]? = some (.cells #[.slice none 0 0, .slice none 0 0, .int .i64 0, .bool false, .bool false, .bool false, .int .i64 0, .int .i64 0, .int .i64 0] 35) := by have k := tblk_new (w.alloc (.cells #[.slice ai ni ci, .slice ao no co, .int .i64 win, .bool false, .bool false, .bool true, .int .i64 h, .int .i64 q, .int .i64 m] 35)) (.cells #[.slice none 0 0, .slice none 0 0, .int .i64 0, .bool false, .bool false, .bool false, .int .i64 0, .int .i64 0, .int .i64 0] 35); rw [hs1] at k; exact k
  have HW0 : Hid (Below w.heap.size w ((w.alloc (.cells #[.slice ai ni ci, .slice ao no co, .int .i64 win, .bool false, .bool false, .bool true, .int .i64 h, .int .i64 q, .int .i64 m] 35)).alloc (.cells #[.slice none 0 0, .slice none 0 0, .int .i64 0, .bool false, .bool false, .bool false, .int .i64 0, .int .i64 0, .int .i64 0] 35))) := ((Below.refl w.heap.size w).alloc (Nat.le_refl _) _).alloc (by rw [hs1]; omega) _
  have hs0 : ((w.alloc (.cells #[.slice ai ni ci, .slice ao no co, .int .i64 win, .bool false, .bool false, .bool true, .int .i64 h, .int .i64 q, .int .i64 m] 35)).alloc (.cells #[.slice none 0 0, .slice none 0 0, .int .i64 0, .bool false, .bool false, .bool false, .int .i64 0, .int .i64 0, .int .i64 0] 35)).heap.size = w.heap.size + 2 := by simp
  have HS0 := hidC hs0
  have HB0 := hidC hb0
  have HR0 := hidC hr0
  clear hs1 hs0 hb0 hr0
  go_enter Tryz.func18, Tryz.ntmps18
  go_upto_region 1 with fail
  have hb := HB0.out
  have hr := HR0.out
  have HW := HW0
  have hws := Nat.le_of_eq HS0.out.symm
  clear HB0 HR0 HW0 HS0
  generalize ((w.alloc (.cells #[.slice ai ni ci, .slice ao no co, .int .i64 win, .bool false, .bool false, .bool true, .int .i64 h, .int .i64 q, .int .i64 m] 35)).alloc (.cells #[.slice none 0 0, .slice none 0 0, .int .i64 0, .bool false, .bool false, .bool false, .int .i64 0, .int .i64 0, .int .i64 0] 35)) = w1 at *
  have a3 := tblk_cell (i := 3) hb rfl
  have az3 := lblk_z (i := 3) hb
  have a4 := tblk_cell (i := 4) hb rfl
  have az4 := lblk_z (i := 4) hb
  have a5 := tblk_cell (i := 5) hb rfl
  have az5 := lblk_z (i := 5) hb
  obtain ⟨e0, e1, e2, e3, e4, e5, e6, e7, e8⟩ := t9_cells hb
  obtain ⟨c0, c1, c2, c3, c4, c5, c6, c7, c8⟩ := t9_cells hr
  obtain ⟨cz0, cz1, cz2, cz3, cz4, cz5, cz6, cz7, cz8⟩ := t9_z hr
  have HRB := hidC (nine_cells hr (.slice ai ni ci) (.slice ao no co) (.int .i64 win) (.bool false) (.bool false) (.bool true) (.int .i64 h) (.int .i64 q) (.int .i64 m))
  have HEB := hidC (nine_below (.slice ai ni ci) (.slice ao no co) (.int .i64 win) (.bool false) (.bool false) (.bool true) (.int .i64 h) (.int .i64 q) (.int .i64 m) HW.out (show w.heap.size ≤ (w.heap.size + 1) by first | exact Nat.le_refl _ | exact Nat.le_succ _ | omega))
  have hrb := HRB.out
  obtain ⟨r0, r1, r2, r3, r4, r5, r6, r7, r8⟩ := t9_cells hrb
  unfold nine at r0 r1 r2 r3 r4 r5 r6 r7 r8 HEB
  clear hrb HRB hb hr HW hws 
  go_wp2
  refine bodyPost_ret (v := .tuple #[.agg #[.slice ai ni ci, .slice ao no co, .int .i64 win, .bool false, .bool false, .bool true, .int .i64 h, .int .i64 q, .int .i64 m], .bool false]) (by simp [results, Tryz.results18, go_sem, r0, r1, r2, r3, r4, r5, r6, r7, r8]) rfl ?_
  exact ⟨rfl, HEB.out⟩
set_option maxRecDepth 100000 in
set_option maxHeartbeats 4000000 in
theorem r18waits_no (ai : Option Addr) (ni ci : Nat) (ao : Option Addr) (no co : Nat) (win : Int)  (h q m : Int) (w : World) (hW : ∀ W, Below w.heap.size w W → Calls Tryz.prog 53 #[.slice ai ni ci] W fun e w' => e = .returned (.bool false) ∧ Below W.heap.size W w') :
    Calls Tryz.prog 18 #[.agg (dv ai ni ci ao no co win false false false h q m)] w fun e w' => e = .returned (.tuple #[.agg (dv ai ni ci ao no co win false false false h q m), .bool false]) ∧ Below w.heap.size w w' := by
  unfold dv
  have hs1 : (w.alloc (.cells #[.slice ai ni ci, .slice ao no co, .int .i64 win, .bool false, .bool false, .bool false, .int .i64 h, .int .i64 q, .int .i64 m] 35)).heap.size = w.heap.size + 1 := by simp
  have hb0 : ((w.alloc (.cells #[.slice ai ni ci, .slice ao no co, .int .i64 win, .bool false, .bool false, .bool false, .int .i64 h, .int .i64 q, .int .i64 m] 35)).alloc (.cells #[.slice none 0 0, .slice none 0 0, .int .i64 0, .bool false, .bool false, .bool false, .int .i64 0, .int .i64 0, .int .i64 0] 35)).heap[w.heap.size]? = some (.cells #[.slice ai ni ci, .slice ao no co, .int .i64 win, .bool false, .bool false, .bool false, .int .i64 h, .int .i64 q, .int .i64 m] 35) := (Below.heap_alloc _ _ _ (by simp)).trans (tblk_new _ _)
  have hr0 : ((w.alloc (.cells #[.slice ai ni ci, .slice ao no co, .int .i64 win, .bool false, .bool false, .bool false, .int .i64 h, .int .i64 q, .int .i64 m] 35)).alloc (.cells #[.slice none 0 0, .slice none 0 0, .int .i64 0, .bool false, .bool false, .bool false, .int .i64 0, .int .i64 0, .int .i64 0] 35)).heap[w.heap.size + 1]? = some (.cells #[.slice none 0 0, .slice none 0 0, .int .i64 0, .bool false, .bool false, .bool false, .int .i64 0, .int .i64 0, .int .i64 0] 35) := by have k := tblk_new (w.alloc (.cells #[.slice ai ni ci, .slice ao no co, .int .i64 win, .bool false, .bool false, .bool false, .int .i64 h, .int .i64 q, .int .i64 m] 35)) (.cells #[.slice none 0 0, .slice none 0 0, .int .i64 0, .bool false, .bool false, .bool false, .int .i64 0, .int .i64 0, .int .i64 0] 35); rw [hs1] at k; exact k
  have HW0 : Hid (Below w.heap.size w ((w.alloc (.cells #[.slice ai ni ci, .slice ao no co, .int .i64 win, .bool false, .bool false, .bool false, .int .i64 h, .int .i64 q, .int .i64 m] 35)).alloc (.cells #[.slice none 0 0, .slice none 0 0, .int .i64 0, .bool false, .bool false, .bool false, .int .i64 0, .int .i64 0, .int .i64 0] 35))) := ((Below.refl w.heap.size w).alloc (Nat.le_refl _) _).alloc (by rw [hs1]; omega) _
  have hs0 : ((w.alloc (.cells #[.slice ai ni ci, .slice ao no co, .int .i64 win, .bool false, .bool false, .bool false, .int .i64 h, .int .i64 q, .int .i64 m] 35)).alloc (.cells #[.slice none 0 0, .slice none 0 0, .int .i64 0, .bool false, .bool false, .bool false, .int .i64 0, .int .i64 0, .int .i64 0] 35)).heap.size = w.heap.size + 2 := by simp
  have HS0 := hidC hs0
  have HB0 := hidC hb0
  have HR0 := hidC hr0
  clear hs1 hs0 hb0 hr0
  have HT : Hid (∀ W, Below w.heap.size w W → Calls Tryz.prog 53 #[.slice ai ni ci] W fun e w' => e = .returned (.bool false) ∧ Below W.heap.size W w') := hW
  clear hW
  go_enter Tryz.func18, Tryz.ntmps18
  go_upto_region 1 with fail
  have hb := HB0.out
  have hr := HR0.out
  have HW := HW0
  have hws := Nat.le_of_eq HS0.out.symm
  clear HB0 HR0 HW0 HS0
  generalize ((w.alloc (.cells #[.slice ai ni ci, .slice ao no co, .int .i64 win, .bool false, .bool false, .bool false, .int .i64 h, .int .i64 q, .int .i64 m] 35)).alloc (.cells #[.slice none 0 0, .slice none 0 0, .int .i64 0, .bool false, .bool false, .bool false, .int .i64 0, .int .i64 0, .int .i64 0] 35)) = w1 at *
  have a0 := tblk_cell (i := 0) hb rfl
  have az0 := lblk_z (i := 0) hb
  have a3 := tblk_cell (i := 3) hb rfl
  have az3 := lblk_z (i := 3) hb
  have a4 := tblk_cell (i := 4) hb rfl
  have az4 := lblk_z (i := 4) hb
  have a5 := tblk_cell (i := 5) hb rfl
  have az5 := lblk_z (i := 5) hb
  go_wp2_with fail
  refine (HT.out _ HW.out).mono ?_
  rintro e w2 ⟨rfl, B⟩
  have hb := (B.block _ (heap_lt hb)).trans hb
  have hr := (B.block _ (heap_lt hr)).trans hr
  have HW : Hid (Below w.heap.size w w2) := HW.out.trans (B.mono HW.out.size)
  have hws : w.heap.size + 2 ≤ w2.heap.size := Nat.le_trans hws B.size
  clear B
  clear a0 az0 a3 az3 a4 az4 a5 az5
  obtain ⟨e0, e1, e2, e3, e4, e5, e6, e7, e8⟩ := t9_cells hb
  obtain ⟨c0, c1, c2, c3, c4, c5, c6, c7, c8⟩ := t9_cells hr
  obtain ⟨cz0, cz1, cz2, cz3, cz4, cz5, cz6, cz7, cz8⟩ := t9_z hr
  have HRB := hidC (nine_cells hr (.slice ai ni ci) (.slice ao no co) (.int .i64 win) (.bool false) (.bool false) (.bool false) (.int .i64 h) (.int .i64 q) (.int .i64 m))
  have HEB := hidC (nine_below (.slice ai ni ci) (.slice ao no co) (.int .i64 win) (.bool false) (.bool false) (.bool false) (.int .i64 h) (.int .i64 q) (.int .i64 m) HW.out (show w.heap.size ≤ (w.heap.size + 1) by first | exact Nat.le_refl _ | exact Nat.le_succ _ | omega))
  have hrb := HRB.out
  obtain ⟨r0, r1, r2, r3, r4, r5, r6, r7, r8⟩ := t9_cells hrb
  unfold nine at r0 r1 r2 r3 r4 r5 r6 r7 r8 HEB
  clear hrb HRB hb hr HW hws HT
  go_wp2
  refine bodyPost_ret (v := .tuple #[.agg #[.slice ai ni ci, .slice ao no co, .int .i64 win, .bool false, .bool false, .bool false, .int .i64 h, .int .i64 q, .int .i64 m], .bool false]) (by simp [results, Tryz.results18, go_sem, r0, r1, r2, r3, r4, r5, r6, r7, r8]) rfl ?_
  exact ⟨rfl, HEB.out⟩
set_option maxRecDepth 100000 in
set_option maxHeartbeats 4000000 in
theorem r18waits_yes (ai : Option Addr) (ni ci : Nat) (ao : Option Addr) (no co : Nat) (win : Int)  (h q m : Int) (w : World) (hW : ∀ W, Below w.heap.size w W → Calls Tryz.prog 53 #[.slice ai ni ci] W fun e w' => e = .returned (.bool true) ∧ Below W.heap.size W w') :
    Calls Tryz.prog 18 #[.agg (dv ai ni ci ao no co win false false false h q m)] w fun e w' => e = .returned (.tuple #[.agg (dv ai ni ci ao no co win false false true h q m), .bool true]) ∧ Below w.heap.size w w' := by
  unfold dv
  have hs1 : (w.alloc (.cells #[.slice ai ni ci, .slice ao no co, .int .i64 win, .bool false, .bool false, .bool false, .int .i64 h, .int .i64 q, .int .i64 m] 35)).heap.size = w.heap.size + 1 := by simp
  have hb0 : ((w.alloc (.cells #[.slice ai ni ci, .slice ao no co, .int .i64 win, .bool false, .bool false, .bool false, .int .i64 h, .int .i64 q, .int .i64 m] 35)).alloc (.cells #[.slice none 0 0, .slice none 0 0, .int .i64 0, .bool false, .bool false, .bool false, .int .i64 0, .int .i64 0, .int .i64 0] 35)).heap[w.heap.size]? = some (.cells #[.slice ai ni ci, .slice ao no co, .int .i64 win, .bool false, .bool false, .bool false, .int .i64 h, .int .i64 q, .int .i64 m] 35) := (Below.heap_alloc _ _ _ (by simp)).trans (tblk_new _ _)
  have hr0 : ((w.alloc (.cells #[.slice ai ni ci, .slice ao no co, .int .i64 win, .bool false, .bool false, .bool false, .int .i64 h, .int .i64 q, .int .i64 m] 35)).alloc (.cells #[.slice none 0 0, .slice none 0 0, .int .i64 0, .bool false, .bool false, .bool false, .int .i64 0, .int .i64 0, .int .i64 0] 35)).heap[w.heap.size + 1]? = some (.cells #[.slice none 0 0, .slice none 0 0, .int .i64 0, .bool false, .bool false, .bool false, .int .i64 0, .int .i64 0, .int .i64 0] 35) := by have k := tblk_new (w.alloc (.cells #[.slice ai ni ci, .slice ao no co, .int .i64 win, .bool false, .bool false, .bool false, .int .i64 h, .int .i64 q, .int .i64 m] 35)) (.cells #[.slice none 0 0, .slice none 0 0, .int .i64 0, .bool false, .bool false, .bool false, .int .i64 0, .int .i64 0, .int .i64 0] 35); rw [hs1] at k; exact k
  have HW0 : Hid (Below w.heap.size w ((w.alloc (.cells #[.slice ai ni ci, .slice ao no co, .int .i64 win, .bool false, .bool false, .bool false, .int .i64 h, .int .i64 q, .int .i64 m] 35)).alloc (.cells #[.slice none 0 0, .slice none 0 0, .int .i64 0, .bool false, .bool false, .bool false, .int .i64 0, .int .i64 0, .int .i64 0] 35))) := ((Below.refl w.heap.size w).alloc (Nat.le_refl _) _).alloc (by rw [hs1]; omega) _
  have hs0 : ((w.alloc (.cells #[.slice ai ni ci, .slice ao no co, .int .i64 win, .bool false, .bool false, .bool false, .int .i64 h, .int .i64 q, .int .i64 m] 35)).alloc (.cells #[.slice none 0 0, .slice none 0 0, .int .i64 0, .bool false, .bool false, .bool false, .int .i64 0, .int .i64 0, .int .i64 0] 35)).heap.size = w.heap.size + 2 := by simp
  have HS0 := hidC hs0
  have HB0 := hidC hb0
  have HR0 := hidC hr0
  clear hs1 hs0 hb0 hr0
  have HT : Hid (∀ W, Below w.heap.size w W → Calls Tryz.prog 53 #[.slice ai ni ci] W fun e w' => e = .returned (.bool true) ∧ Below W.heap.size W w') := hW
  clear hW
  go_enter Tryz.func18, Tryz.ntmps18
  go_upto_region 1 with fail
  have hb := HB0.out
  have hr := HR0.out
  have HW := HW0
  have hws := Nat.le_of_eq HS0.out.symm
  clear HB0 HR0 HW0 HS0
  generalize ((w.alloc (.cells #[.slice ai ni ci, .slice ao no co, .int .i64 win, .bool false, .bool false, .bool false, .int .i64 h, .int .i64 q, .int .i64 m] 35)).alloc (.cells #[.slice none 0 0, .slice none 0 0, .int .i64 0, .bool false, .bool false, .bool false, .int .i64 0, .int .i64 0, .int .i64 0] 35)) = w1 at *
  have a0 := tblk_cell (i := 0) hb rfl
  have az0 := lblk_z (i := 0) hb
  have a3 := tblk_cell (i := 3) hb rfl
  have az3 := lblk_z (i := 3) hb
  have a4 := tblk_cell (i := 4) hb rfl
  have az4 := lblk_z (i := 4) hb
  have a5 := tblk_cell (i := 5) hb rfl
  have az5 := lblk_z (i := 5) hb
  go_wp2_with fail
  refine (HT.out _ HW.out).mono ?_
  rintro e w2 ⟨rfl, B⟩
  have hb := (B.block _ (heap_lt hb)).trans hb
  have hr := (B.block _ (heap_lt hr)).trans hr
  have HW : Hid (Below w.heap.size w w2) := HW.out.trans (B.mono HW.out.size)
  have hws : w.heap.size + 2 ≤ w2.heap.size := Nat.le_trans hws B.size
  clear B
  clear a0 az0 a3 az3 a4 az4 a5 az5
  have a5 := tblk_cell (i := 5) hb rfl
  have az5 := lblk_z (i := 5) hb
  have hb2 := one9_5 hb (.bool true)
  have hr2 : (w2.setCell ⟨w.heap.size, 5, none⟩ (.bool true)).heap[w.heap.size + 1]? = _ := (set_away (i := 5) (v := .bool true) (show ¬ w.heap.size + 1 = w.heap.size by omega)).trans hr
  have HW2 : Hid (Below w.heap.size w (w2.setCell ⟨w.heap.size, 5, none⟩ (.bool true))) := HW.out.setCell (p := ⟨w.heap.size, 5, none⟩) (Nat.le_refl _) _
  have hw2 : (w2.setCell ⟨w.heap.size, 5, none⟩ (.bool true)).heap.size = w2.heap.size := by simp [World.setCell]
  have hws2 : w.heap.size + 2 ≤ (w2.setCell ⟨w.heap.size, 5, none⟩ (.bool true)).heap.size := by rw [hw2]; exact hws
  clear hw2 hws
  clear hb hr HW
  have hb := hb2
  have hr := hr2
  have HW := HW2
  have hws := hws2
  clear hb2 hr2 HW2 hws2
  obtain ⟨e0, e1, e2, e3, e4, e5, e6, e7, e8⟩ := t9_cells hb
  obtain ⟨c0, c1, c2, c3, c4, c5, c6, c7, c8⟩ := t9_cells hr
  obtain ⟨cz0, cz1, cz2, cz3, cz4, cz5, cz6, cz7, cz8⟩ := t9_z hr
  have HRB := hidC (nine_cells hr (.slice ai ni ci) (.slice ao no co) (.int .i64 win) (.bool false) (.bool false) (.bool true) (.int .i64 h) (.int .i64 q) (.int .i64 m))
  have HEB := hidC (nine_below (.slice ai ni ci) (.slice ao no co) (.int .i64 win) (.bool false) (.bool false) (.bool true) (.int .i64 h) (.int .i64 q) (.int .i64 m) HW.out (show w.heap.size ≤ (w.heap.size + 1) by first | exact Nat.le_refl _ | exact Nat.le_succ _ | omega))
  have hrb := HRB.out
  obtain ⟨r0, r1, r2, r3, r4, r5, r6, r7, r8⟩ := t9_cells hrb
  unfold nine at r0 r1 r2 r3 r4 r5 r6 r7 r8 HEB
  clear hrb HRB hb hr HW hws HT
  go_wp2
  refine bodyPost_ret (v := .tuple #[.agg #[.slice ai ni ci, .slice ao no co, .int .i64 win, .bool false, .bool false, .bool true, .int .i64 h, .int .i64 q, .int .i64 m], .bool true]) (by simp [results, Tryz.results18, go_sem, r0, r1, r2, r3, r4, r5, r6, r7, r8]) rfl ?_
  exact ⟨rfl, HEB.out⟩
end Go.Proofs.YtemmmdhmkegaaaaGreatDoor

/- Conn: the document's connection tells what the connection is. -/
namespace Go.Proofs.YtemmmdhmkegaaaaGreatDoor
open Go.RowKit
set_option linter.unusedVariables false

def RowK (P : Nat → Prop) (w : World) (v : Value) (X : List UInt8) : Prop := ∃ k, (0 < X.length → P k ∧ k < w.heap.size) ∧ Src w k v X
theorem RowK.keep {P : Nat → Prop} {w w' : World} {v : Value} {X : List UInt8} (h : RowK P w v X) (B : Below w.heap.size w w') : RowK P w' v X := by
  obtain ⟨k, p, s⟩ := h
  exact ⟨k, fun q => ⟨(p q).1, Nat.lt_of_lt_of_le (p q).2 B.size⟩, s.keep (fun q => (p q).2) B⟩
theorem RowK.own {P : Nat → Prop} {B : Nat} {w : World} {v : Value} {X : List UInt8} (h : Own B w v X) (hP : ∀ k, B ≤ k → P k) : RowK P w v X := by
  obtain ⟨k, s, q⟩ := h.src
  exact ⟨k, fun z => ⟨hP k (q z).1, (q z).2⟩, s⟩
theorem RowK.nil {P : Nat → Prop} {w : World} {a : Option Addr} : RowK P w (.slice a 0 0) [] := ⟨0, fun z => absurd z (Nat.lt_irrefl 0), a, 0, rfl, Nat.le_refl _, Nat.zero_le _, fun z => absurd z (Nat.lt_irrefl 0)⟩
def dagg (ai : Option Addr) (ci : Nat) (ao : Option Addr) (co : Nat) (s : Cs) (q m : Int) : Value := .agg (dv ai s.li.length ci ao s.lo.length co s.win s.bz s.cl s.wt ((s.li.length + s.lo.length : Nat) : Int) q m)
def DB (P : Nat → Prop) (w : World) (v : Value) (s : Cs) (m : Int) : Prop := ∃ ai ci ao co q, v = dagg ai ci ao co s q m ∧ RowK P w (.slice ai s.li.length ci) s.li ∧ RowK P w (.slice ao s.lo.length co) s.lo
theorem DB.keep {P : Nat → Prop} {w w' : World} {v : Value} {s : Cs} {m : Int} (h : DB P w v s m) (B : Below w.heap.size w w') : DB P w' v s m := by
  obtain ⟨ai, ci, ao, co, q, e, r1, r2⟩ := h
  exact ⟨ai, ci, ao, co, q, e, r1.keep B, r2.keep B⟩
structure Fit (s : Cs) (m : Int) : Prop where
  fit : ((s.li.length + s.lo.length : Nat) : Int) ≤ m
  top : m ≤ 1099511627776
  len : s.li.length + s.lo.length ≤ 1099511627776
  win : 0 ≤ s.win ∧ s.win ≤ 1073741824
section
variable {P : Nat → Prop} {w : World} {v : Value} {s : Cs} {m : Int}
theorem db_shut (h : DB P w v s m) (f : Fit s m) : Calls Tryz.prog 47 #[v] w fun e w' => ∃ v', e = .returned v' ∧ DB P w' v' (shutS s) m ∧ Below w.heap.size w w' := by
  obtain ⟨ai, ci, ao, co, q, rfl, r1, r2⟩ := h
  obtain ⟨f1, f2, f3, f4⟩ := f
  obtain ⟨li, lo, win, bz, wt, cl⟩ := s
  simp only at f1 f2 f3 f4 r1 r2
  unfold dagg
  cases cl with
  | true =>
    refine (r18shut_yes ai li.length ci ao lo.length co win bz wt _ q m w).mono ?_
    rintro e w' ⟨rfl, B⟩
    exact ⟨_, rfl, ⟨ai, ci, ao, co, q, rfl, r1.keep B, r2.keep B⟩, B⟩
  | false =>
    refine (r18shut_no ai li.length ci ao lo.length co win bz wt _ q m w (by omega) f1 f2 (by omega)).mono ?_
    rintro e w' ⟨a, rfl, B⟩
    rw [show (((li.length + lo.length : Nat) : Int) - li.length) = (((0 : Nat) + lo.length : Nat) : Int) by omega]
    exact ⟨_, rfl, ⟨a, 0, ao, co, q, rfl, RowK.nil, r2.keep B⟩, B⟩
theorem db_note {ab : Option Addr} {nb cb kb : Nat} {Y : List UInt8} (h : DB P w v s m) (f : Fit s m) (hP : ∀ k, w.heap.size ≤ k → P k) (hY : Src w kb (.slice ab nb cb) Y) (q2 : 0 < Y.length → kb < w.heap.size) (hl : Y.length ≤ 9223372036854775807) :
    Calls Tryz.prog 22 #[v, .slice ab nb cb] w fun e w' => ∃ v', e = .returned (.tuple #[v', .bool (noteS s (s.li.length + s.lo.length) m Y).2]) ∧ DB P w' v' (noteS s (s.li.length + s.lo.length) m Y).1 m ∧ Below w.heap.size w w' := by
  obtain ⟨ai, ci, ao, co, q, rfl, r1, r2⟩ := h
  obtain ⟨f1, f2, f3, f4⟩ := f
  obtain ⟨li, lo, win, bz, wt, cl⟩ := s
  simp only at f1 f2 f3 f4 r1 r2
  have hn := hY.len.1
  unfold dagg noteS
  by_cases hT : ((li.length + lo.length : Nat) : Int) + Y.length ≤ m
  · obtain ⟨ko, p1, s1⟩ := r2
    simp only [if_pos hT]
    refine (r18note_yes ai li.length ci ao lo.length co win bz cl wt _ q m ab nb cb w (by omega) f1 f2 (by omega) lo Y ko kb s1 (fun z => (p1 z).2) hY q2 (by omega)).mono ?_
    rintro e w' ⟨a, c, q', rfl, O, B⟩
    refine ⟨_, rfl, ⟨ai, ci, a, c, q', ?_, r1.keep B, ?_⟩, B⟩
    · unfold dagg
      simp only [List.length_append]
      rw [hn, show ((li.length + lo.length : Nat) : Int) + nb = ((li.length + (lo.length + nb) : Nat) : Int) by omega]
    · simp only [List.length_append]
      rw [hn]
      exact RowK.own O hP
  · simp only [if_neg hT]
    refine (r18note_no ai li.length ci ao lo.length co win bz cl wt _ q m ab nb cb w (by omega) f1 f2 (by omega)).mono ?_
    rintro e w' ⟨rfl, B⟩
    exact ⟨_, rfl, ⟨ai, ci, ao, co, q, rfl, r1.keep B, r2.keep B⟩, B⟩
theorem db_feed {ab : Option Addr} {nb cb kb : Nat} {Y : List UInt8} (h : DB P w v s m) (f : Fit s m) (hP : ∀ k, w.heap.size ≤ k → P k) (hY : Src w kb (.slice ab nb cb) Y) (q2 : 0 < Y.length → kb < w.heap.size) (hl : Y.length ≤ 9223372036854775807) :
    Calls Tryz.prog 13 #[v, .slice ab nb cb] w fun e w' => ∃ v', e = .returned (.tuple #[v', .bool (feedS s (s.li.length + s.lo.length) m Y).2]) ∧ DB P w' v' (feedS s (s.li.length + s.lo.length) m Y).1 m ∧ Below w.heap.size w w' := by
  obtain ⟨ai, ci, ao, co, q, rfl, r1, r2⟩ := h
  obtain ⟨f1, f2, f3, f4⟩ := f
  obtain ⟨li, lo, win, bz, wt, cl⟩ := s
  simp only at f1 f2 f3 f4 r1 r2
  have hn := hY.len.1
  unfold dagg feedS
  cases cl with
  | true =>
    simp only [if_true]
    refine (r18feed_cl ai li.length ci ao lo.length co win bz wt _ q m ab nb cb w).mono ?_
    rintro e w' ⟨rfl, B⟩
    exact ⟨_, rfl, ⟨ai, ci, ao, co, q, rfl, r1.keep B, r2.keep B⟩, B⟩
  | false =>
    simp only [Bool.false_eq_true, if_false]
    by_cases hT : ((li.length + lo.length : Nat) : Int) + Y.length ≤ m
    · obtain ⟨ko, p1, s1⟩ := r1
      simp only [if_pos hT]
      refine (r18feed_yes ai li.length ci ao lo.length co win bz wt _ q m ab nb cb w (by omega) f1 f2 (by omega) li Y ko kb s1 (fun z => (p1 z).2) hY q2 (by omega)).mono ?_
      rintro e w' ⟨a, c, q', rfl, O, B⟩
      refine ⟨_, rfl, ⟨a, c, ao, co, q', ?_, ?_, r2.keep B⟩, B⟩
      · unfold dagg
        simp only [List.length_append]
        rw [hn, show ((li.length + lo.length : Nat) : Int) + nb = ((li.length + nb + lo.length : Nat) : Int) by omega]
      · simp only [List.length_append]
        rw [hn]
        exact RowK.own O hP
    · simp only [if_neg hT]
      refine (r18feed_no ai li.length ci ao lo.length co win bz wt _ q m ab nb cb w (by omega) f1 f2 (by omega)).mono ?_
      rintro e w' ⟨rfl, B⟩
      exact ⟨_, rfl, ⟨ai, ci, ao, co, q, rfl, r1.keep B, r2.keep B⟩, B⟩
theorem db_drop (h : DB P w v s m) (f : Fit s m) : Calls Tryz.prog 29 #[v] w fun e w' => ∃ v', e = .returned v' ∧ DB P w' v' (dropS s) m ∧ Below w.heap.size w w' := by
  obtain ⟨ai, ci, ao, co, q, rfl, r1, r2⟩ := h
  obtain ⟨f1, f2, f3, f4⟩ := f
  obtain ⟨li, lo, win, bz, wt, cl⟩ := s
  simp only at f1 f2 f3 f4 r1 r2
  unfold dagg
  cases cl with
  | true =>
    refine (r18drop_cl ai li.length ci ao lo.length co win bz wt _ q m w (by omega) f1 f2 (by omega)).mono ?_
    rintro e w' ⟨a', rfl, B⟩
    rw [show (((li.length + lo.length : Nat) : Int) - lo.length) = ((li.length + (0 : Nat) : Nat) : Int) by omega]
    exact ⟨_, rfl, ⟨ai, ci, a', 0, q, rfl, r1.keep B, RowK.nil⟩, B⟩
  | false =>
    refine (r18drop_op ai li.length ci ao lo.length co win bz wt _ q m w (by omega) f1 f2 (by omega)).mono ?_
    rintro e w' ⟨a, a', rfl, B⟩
    rw [show (((li.length + lo.length : Nat) : Int) - li.length - lo.length) = (((0 : Nat) + (0 : Nat) : Nat) : Int) by omega]
    exact ⟨_, rfl, ⟨a, 0, a', 0, q, rfl, RowK.nil, RowK.nil⟩, B⟩
theorem db_window (n : Int) (h : DB P w v s m) (f : Fit s m) : Calls Tryz.prog 24 #[v, .int .i64 n] w fun e w' => ∃ v', e = .returned v' ∧ DB P w' v' (windowS s n) m ∧ Below w.heap.size w w' := by
  obtain ⟨ai, ci, ao, co, q, rfl, r1, r2⟩ := h
  obtain ⟨f1, f2, f3, f4⟩ := f
  obtain ⟨li, lo, win, bz, wt, cl⟩ := s
  simp only at f1 f2 f3 f4 r1 r2
  unfold dagg
  have hx : btw (win + btw n 0 1073741824) 0 1073741824 = win + min (max n 0) (1073741824 - win) := by
    unfold btw
    repeat' split
    all_goals omega
  refine (r18window_any ai li.length ci ao lo.length co win bz cl wt _ q m n _ _ w (by omega) rfl hx).mono ?_
  rintro e w' ⟨rfl, B⟩
  exact ⟨_, rfl, ⟨ai, ci, ao, co, q, rfl, r1.keep B, r2.keep B⟩, B⟩
theorem db_write (n : Int) (h : DB P w v s m) (f : Fit s m) : Calls Tryz.prog 26 #[v, .int .i64 n] w fun e w' => ∃ v' a c, e = .returned (.tuple #[v', .slice a (writeN s n) c]) ∧ DB P w' v' (writeS s n) m ∧ RowK P w' (.slice a (writeN s n) c) (s.lo.take (writeN s n)) ∧ Below w.heap.size w w' := by
  have hN := writeN_le s n f.win.1
  have hwn : btw n 0 (wantS s) = (writeN s n : Int) := by
    have := f.win.1
    unfold writeN wantS btw
    repeat' split
    all_goals omega
  have hww : btw s.lo.length 0 s.win = wantS s := by
    have := f.win.1
    unfold wantS btw
    repeat' split
    all_goals omega
  obtain ⟨ai, ci, ao, co, q, rfl, r1, ⟨ko, p2, s2⟩⟩ := h
  obtain ⟨f1, f2, f3, f4⟩ := f
  have hc := s2.len
  have hcm := hc.2.2
  unfold maxLen at hcm
  unfold writeS
  generalize writeN s n = nn at *
  generalize wantS s = wa at *
  obtain ⟨li, lo, win, bz, wt, cl⟩ := s
  simp only at f1 f2 f3 f4 r1 s2 hc hN hww p2
  unfold dagg
  simp only
  by_cases hl : co = nn
  · subst hl
    have hlo : lo.length = co := by omega
    have k := r18write_last ai li.length ci ao co win bz cl wt ((li.length + lo.length : Nat) : Int) q m n wa w (by omega) f1 f2 (by rw [← hlo]; exact hww) hwn (by omega) (by omega) (by omega) (by omega)
    have e : lo.drop co = [] := List.drop_eq_nil_of_le (by omega)
    have e1 : ((li.length + lo.length : Nat) : Int) - co = ((li.length + (0 : Nat) : Nat) : Int) := by omega
    have st := s2.take (m := co) (by omega)
    have hcol : (lo.take co).length = co := by rw [List.length_take]; omega
    rw [e]
    rw [hlo] at k ⊢
    rw [hlo] at e1
    refine k.mono ?_
    rintro e w' ⟨rfl, B⟩
    refine ⟨_, ao, co, rfl, ⟨ai, ci, ao, 0, q, ?_, r1.keep B, RowK.nil⟩, ⟨ko, ?_, ?_⟩, B⟩
    · unfold dagg
      simp only [List.length_nil]
      rw [e1]
    · intro z
      rw [hcol] at z
      exact ⟨(p2 (by omega)).1, Nat.lt_of_lt_of_le (p2 (by omega)).2 B.size⟩
    · exact st.keep (fun z => (p2 (by rw [hcol] at z; omega)).2) B
  · have k := r18write_more ai li.length ci ao lo.length co win bz cl wt ((li.length + lo.length : Nat) : Int) q m n wa nn w (by omega) f1 f2 hww hwn (by omega) (by omega) (by omega) (by omega) (by omega) (by omega) hl
    refine k.mono ?_
    rintro e w' ⟨rfl, B⟩
    refine ⟨_, ao, co, rfl, ⟨ai, ci, Option.map (fun x => x.add nn) ao, co - nn, q, ?_, r1.keep B, ⟨ko, ?_, ?_⟩⟩, ⟨ko, ?_, ?_⟩, B⟩
    · unfold dagg
      simp only [List.length_drop]
      rw [show ((li.length + lo.length : Nat) : Int) - nn = ((li.length + (lo.length - nn) : Nat) : Int) by omega]
    · intro z
      rw [List.length_drop] at z
      exact ⟨(p2 (by omega)).1, Nat.lt_of_lt_of_le (p2 (by omega)).2 B.size⟩
    · have k2 := (s2.cut (m := nn) (a' := Option.map (fun x => x.add nn) ao) (by omega) (fun _ => rfl)).keep (w' := w') (fun z => (p2 (by rw [List.length_drop] at z; omega)).2) B
      simp only [List.length_drop]
      exact k2
    · intro z
      rw [List.length_take] at z
      exact ⟨(p2 (by omega)).1, Nat.lt_of_lt_of_le (p2 (by omega)).2 B.size⟩
    · exact (s2.take (m := nn) (by omega)).keep (w' := w') (fun z => (p2 (by rw [List.length_take] at z; omega)).2) B
theorem db_waits (h : DB P w v s m) (f : Fit s m) : Calls Tryz.prog 18 #[v] w fun e w' => ∃ v', e = .returned (.tuple #[v', .bool (waitS s).2]) ∧ DB P w' v' (waitS s).1 m ∧ Below w.heap.size w w' := by
  obtain ⟨ai, ci, ao, co, q, rfl, ⟨ki, p1, s1⟩, r2⟩ := h
  obtain ⟨f1, f2, f3, f4⟩ := f
  obtain ⟨li, lo, win, bz, wt, cl⟩ := s
  simp only at f1 f2 f3 f4 p1 s1 r2
  have r1 : RowK P w (.slice ai li.length ci) li := ⟨ki, p1, s1⟩
  unfold dagg waitS
  cases bz with
  | true =>
    simp only [if_true]
    refine (r18waits_bz ai li.length ci ao lo.length co win cl wt _ q m w).mono ?_
    rintro e w' ⟨rfl, B⟩
    exact ⟨_, rfl, ⟨ai, ci, ao, co, q, rfl, r1.keep B, r2.keep B⟩, B⟩
  | false =>
    cases cl with
    | true =>
      simp only [Bool.false_eq_true, if_true, ite_self]
      refine (r18waits_cl ai li.length ci ao lo.length co win wt _ q m w).mono ?_
      rintro e w' ⟨rfl, B⟩
      exact ⟨_, rfl, ⟨ai, ci, ao, co, q, rfl, r1.keep B, r2.keep B⟩, B⟩
    | false =>
      cases wt with
      | true =>
        simp only [Bool.false_eq_true, if_false, if_true]
        refine (r18waits_wt ai li.length ci ao lo.length co win _ q m w).mono ?_
        rintro e w' ⟨rfl, B⟩
        exact ⟨_, rfl, ⟨ai, ci, ao, co, q, rfl, r1.keep B, r2.keep B⟩, B⟩
      | false =>
        simp only [Bool.false_eq_true, if_false]
        have HL : ∀ W, Below w.heap.size w W → Calls Tryz.prog 53 #[.slice ai li.length ci] W fun e w' => e = .returned (.bool (waitsQ li)) ∧ Below W.heap.size W w' := fun W bW => r8waits_any li ki ci ai W (s1.keep (fun z => (p1 z).2) bW) (fun z => Nat.lt_of_lt_of_le (p1 z).2 bW.size) (by omega)
        rcases Bool.eq_false_or_eq_true (waitsQ li) with hq | hq
        · rw [hq] at HL ⊢
          refine (r18waits_yes ai li.length ci ao lo.length co win _ q m w HL).mono ?_
          rintro e w' ⟨rfl, B⟩
          exact ⟨_, rfl, ⟨ai, ci, ao, co, q, rfl, r1.keep B, r2.keep B⟩, B⟩
        · rw [hq] at HL ⊢
          refine (r18waits_no ai li.length ci ao lo.length co win _ q m w HL).mono ?_
          rintro e w' ⟨rfl, B⟩
          exact ⟨_, rfl, ⟨ai, ci, ao, co, q, rfl, r1.keep B, r2.keep B⟩, B⟩
end
end Go.Proofs.YtemmmdhmkegaaaaGreatDoor
