/- Status: what it answers of every text. -/
import Derived.Test.YthbjdbookiejeabGreatDoorLnB
import Derived.Test.YthbjdbookiejeabGreatDoorShCut
namespace Go.Proofs.YthbjdbookiejeabGreatDoor
open Go.RowKit
set_option linter.unusedVariables false

theorem lbelow_drewN (B : Nat) (w : World) (k : Nat) : Below B w (w.drewN k) := by refine ⟨?_, ?_, ?_, ?_, ?_⟩ <;> simp [World.drewN]
theorem lblk_z {w : World} {b i : Nat} {c : Array Value} {t : TypeId} (h : w.heap[b]? = some (.cells c t)) : w.frozen? ⟨b, i, none⟩ = false := by simp [World.frozen?, h]
/-- A block of five cells, written over. -/
def five (w : World) (b : Nat) (v0 v1 v2 v3 v4 : Value) : World := ((((w.setCell ⟨b, 0, none⟩ v0).setCell ⟨b, 1, none⟩ v1).setCell ⟨b, 2, none⟩ v2).setCell ⟨b, 3, none⟩ v3).setCell ⟨b, 4, none⟩ v4
theorem five_cells {w : World} {b : Nat} {y0 y1 y2 y3 y4 : Value} {t : TypeId} (h : w.heap[b]? = some (.cells #[y0, y1, y2, y3, y4] t)) (v0 v1 v2 v3 v4 : Value) :
    (five w b v0 v1 v2 v3 v4).heap[b]? = some (.cells #[v0, v1, v2, v3, v4] t) := by
  simp [five, World.setCell, Array.getElem?_modify, h]
theorem five_below {B : Nat} {w w' : World} {b : Nat} (v0 v1 v2 v3 v4 : Value) (C : Below B w w') (hb : B ≤ b) : Below B w (five w' b v0 v1 v2 v3 v4) := by
  unfold five
  exact ((((C.setCell (p := ⟨b, 0, none⟩) hb _).setCell (p := ⟨b, 1, none⟩) hb _).setCell (p := ⟨b, 2, none⟩) hb _).setCell (p := ⟨b, 3, none⟩) hb _).setCell (p := ⟨b, 4, none⟩) hb _

/-- Cut at the first blank. -/
def bcut (s : ByteArray) : ByteArray × ByteArray × Bool := (⟨(Lib.cut s.data.toList [32]).1.toArray⟩, ⟨(Lib.cut s.data.toList [32]).2.1.toArray⟩, (Lib.cut s.data.toList [32]).2.2)
theorem bcut_any (s : ByteArray) (w : World) (hs : s.size < 4294967281) (hM : MaxL w) :
    Calls Tryz.prog 74 #[.string s, .string ⟨#[32]⟩] w fun e w' => e = .returned (.tuple #[.string (bcut s).1, .string (bcut s).2.1, .bool (bcut s).2.2]) ∧ Below w.heap.size w w' := by
  obtain ⟨m, hm⟩ := hM
  refine (Tryz.strings_Cut s ⟨#[32]⟩ m w hs hm).mono ?_
  rintro e w' ⟨rfl, k, rfl⟩
  exact ⟨rfl, lbelow_drewN _ _ _⟩
theorem lcut_len (l s : List UInt8) : (Lib.cut l s).1.length ≤ l.length ∧ (Lib.cut l s).2.1.length ≤ l.length := by
  unfold Lib.cut
  split <;> simp <;> omega
theorem bcut_len (s : ByteArray) : (bcut s).1.size ≤ s.size ∧ (bcut s).2.1.size ≤ s.size := lcut_len s.data.toList [32]

structure St where
  code : Int
  reason : ByteArray
  minor : Int
  ok : Bool
def statP (s : ByteArray) : St :=
  if (minP (bcut s).1).2 = true ∧ (codP (bcut (bcut s).2.1).1).2 = true ∧ rsnP (bcut (bcut s).2.1).2.1 = true then ⟨(codP (bcut (bcut s).2.1).1).1, (bcut (bcut s).2.1).2.1, (minP (bcut s).1).1, true⟩ else ⟨0, ⟨#[]⟩, 0, false⟩
/-- A response's value. -/
def respV (x : St) : Value := .agg #[.int .i64 x.code, .string x.reason, .int .i64 x.minor, .slice none 0 0, .slice none 0 0]

set_option maxRecDepth 100000 in
set_option maxHeartbeats 4000000 in
theorem status_any (s : ByteArray) (w : World) (hs : s.size < 4294967281) (hM : MaxL w) :
    Calls Tryz.prog 48 #[.string s] w fun e w' => e = .returned (.tuple #[respV (statP s), .bool (statP s).ok]) ∧ Below w.heap.size w w' := by
  have l1 := bcut_len s
  have l2 := bcut_len (bcut s).2.1
  have H1 : Hid (∀ W, Below w.heap.size w W → Calls Tryz.prog 74 #[.string s, .string ⟨#[32]⟩] W fun e w' => e = .returned (.tuple #[.string (bcut s).1, .string (bcut s).2.1, .bool (bcut s).2.2]) ∧ Below W.heap.size W w') := fun W b => bcut_any s W hs (hM.below b)
  have H2 : Hid (∀ W, Below w.heap.size w W → Calls Tryz.prog 74 #[.string (bcut s).2.1, .string ⟨#[32]⟩] W fun e w' => e = .returned (.tuple #[.string (bcut (bcut s).2.1).1, .string (bcut (bcut s).2.1).2.1, .bool (bcut (bcut s).2.1).2.2]) ∧ Below W.heap.size W w') := fun W b => bcut_any _ W (by omega) (hM.below b)
  have HD : Hid (∀ W, Calls Tryz.prog 84 #[.string (bcut (bcut s).2.1).1] W fun e w' => e = .returned (.tuple #[.int .i64 (codP (bcut (bcut s).2.1).1).1, .bool (codP (bcut (bcut s).2.1).1).2]) ∧ w' = W) := fun W => codeof_any _ W (by unfold maxLen; omega)
  have HR : Hid (∀ W, Calls Tryz.prog 85 #[.string (bcut (bcut s).2.1).2.1] W fun e w' => e = .returned (.bool (rsnP (bcut (bcut s).2.1).2.1)) ∧ Below W.heap.size W w') := fun W => isreason_any _ W (by unfold maxLen; omega)
  have HK : Hid (∀ W, Calls Tryz.prog 57 #[.string (bcut (bcut s).2.1).2.1] W fun e w' => e = .returned (.string (bcut (bcut s).2.1).2.1) ∧ Below W.heap.size W w') := fun W => clone_any _ W (by omega)
  have HN : Hid (∀ W, Calls Tryz.prog 56 #[.string (bcut s).1] W fun e w' => e = .returned (.tuple #[.int .i64 (minP (bcut s).1).1, .bool (minP (bcut s).1).2]) ∧ w' = W) := fun W => minor_any _ W
  unfold statP
  generalize (bcut (bcut s).2.1) = y at *
  generalize (bcut s) = x at *
  obtain ⟨v, rest, b1⟩ := x
  obtain ⟨d, r, b2⟩ := y
  simp only at H1 H2 HD HR HK HN ⊢
  generalize minP v = mm at *
  generalize codP d = cc at *
  generalize rsnP r = rr at *
  obtain ⟨m, kn⟩ := mm
  obtain ⟨c, ok⟩ := cc
  simp only at HD HN ⊢
  clear l1 l2 hs hM
  have hg0 := tblk_new w (.cells #[.int .i64 0, .string ⟨#[]⟩, .int .i64 0, .slice none 0 0, .slice none 0 0] 34)
  have C0 : Below w.heap.size w (w.alloc (.cells #[.int .i64 0, .string ⟨#[]⟩, .int .i64 0, .slice none 0 0, .slice none 0 0] 34)) := (Below.refl _ _).alloc (Nat.le_refl _) _
  cases kn
  · rw [if_neg (by simp)]
    clear HR HK
    go_enter Tryz.func48, Tryz.ntmps48
    go_wp2_with fail
    refine (H1.out _ C0).mono ?_
    generalize w.alloc (.cells #[.int .i64 0, .string ⟨#[]⟩, .int .i64 0, .slice none 0 0, .slice none 0 0] 34) = w0 at *
    rintro e w1 ⟨rfl, B1⟩
    have hg1 := tblk_below hg0 B1
    have C1 := C0.trans (B1.mono C0.size)
    clear hg0 C0 B1 H1
    go_wp2_with fail
    refine (H2.out _ C1).mono ?_
    rintro e w2 ⟨rfl, B2⟩
    have hg2 := tblk_below hg1 B2
    have C2 := C1.trans (B2.mono C1.size)
    clear hg1 C1 B2 H2
    go_wp2_with fail
    refine (HN.out _).mono ?_
    rintro e w3 ⟨rfl, rfl⟩
    go_wp2_with fail
    refine (HD.out _).mono ?_
    rintro e w4 ⟨rfl, rfl⟩
    clear HD HN
    have HW := five_cells hg2 (.int .i64 0) (.string ⟨#[]⟩) (.int .i64 0) (.slice none 0 0) (.slice none 0 0)
    have HB := five_below (.int .i64 0) (.string ⟨#[]⟩) (.int .i64 0) (.slice none 0 0) (.slice none 0 0) C2 (Nat.le_refl _)
    have a0 : w4.cell? ⟨w.heap.size, 0, none⟩ = some _ := tblk_cell hg2 rfl
    have z0 : w4.frozen? ⟨w.heap.size, 0, none⟩ = false := lblk_z hg2
    have a1 : w4.cell? ⟨w.heap.size, 1, none⟩ = some _ := tblk_cell hg2 rfl
    have z1 : w4.frozen? ⟨w.heap.size, 1, none⟩ = false := lblk_z hg2
    have a2 : w4.cell? ⟨w.heap.size, 2, none⟩ = some _ := tblk_cell hg2 rfl
    have z2 : w4.frozen? ⟨w.heap.size, 2, none⟩ = false := lblk_z hg2
    have a3 : w4.cell? ⟨w.heap.size, 3, none⟩ = some _ := tblk_cell hg2 rfl
    have z3 : w4.frozen? ⟨w.heap.size, 3, none⟩ = false := lblk_z hg2
    have a4 : w4.cell? ⟨w.heap.size, 4, none⟩ = some _ := tblk_cell hg2 rfl
    have z4 : w4.frozen? ⟨w.heap.size, 4, none⟩ = false := lblk_z hg2
    have r0 := tblk_cell (i := 0) HW rfl
    have r1 := tblk_cell (i := 1) HW rfl
    have r2 := tblk_cell (i := 2) HW rfl
    have r3 := tblk_cell (i := 3) HW rfl
    have r4 := tblk_cell (i := 4) HW rfl
    unfold five at r0 r1 r2 r3 r4 HB
    have HB' : Hid _ := HB
    clear HB HW hg2 C2
    go_wp2
    refine bodyPost_ret (v := .tuple #[.agg #[.int .i64 0, .string ⟨#[]⟩, .int .i64 0, .slice none 0 0, .slice none 0 0], .bool false]) (by simp [results, Tryz.results48, go_sem, r0, r1, r2, r3, r4]) rfl ⟨rfl, HB'.out⟩
  · cases ok
    · rw [if_neg (by simp)]
      clear HR HK
      go_enter Tryz.func48, Tryz.ntmps48
      go_wp2_with fail
      refine (H1.out _ C0).mono ?_
      generalize w.alloc (.cells #[.int .i64 0, .string ⟨#[]⟩, .int .i64 0, .slice none 0 0, .slice none 0 0] 34) = w0 at *
      rintro e w1 ⟨rfl, B1⟩
      have hg1 := tblk_below hg0 B1
      have C1 := C0.trans (B1.mono C0.size)
      clear hg0 C0 B1 H1
      go_wp2_with fail
      refine (H2.out _ C1).mono ?_
      rintro e w2 ⟨rfl, B2⟩
      have hg2 := tblk_below hg1 B2
      have C2 := C1.trans (B2.mono C1.size)
      clear hg1 C1 B2 H2
      go_wp2_with fail
      refine (HN.out _).mono ?_
      rintro e w3 ⟨rfl, rfl⟩
      go_wp2_with fail
      refine (HD.out _).mono ?_
      rintro e w4 ⟨rfl, rfl⟩
      clear HD HN
      have HW := five_cells hg2 (.int .i64 0) (.string ⟨#[]⟩) (.int .i64 0) (.slice none 0 0) (.slice none 0 0)
      have HB := five_below (.int .i64 0) (.string ⟨#[]⟩) (.int .i64 0) (.slice none 0 0) (.slice none 0 0) C2 (Nat.le_refl _)
      have a0 : w4.cell? ⟨w.heap.size, 0, none⟩ = some _ := tblk_cell hg2 rfl
      have z0 : w4.frozen? ⟨w.heap.size, 0, none⟩ = false := lblk_z hg2
      have a1 : w4.cell? ⟨w.heap.size, 1, none⟩ = some _ := tblk_cell hg2 rfl
      have z1 : w4.frozen? ⟨w.heap.size, 1, none⟩ = false := lblk_z hg2
      have a2 : w4.cell? ⟨w.heap.size, 2, none⟩ = some _ := tblk_cell hg2 rfl
      have z2 : w4.frozen? ⟨w.heap.size, 2, none⟩ = false := lblk_z hg2
      have a3 : w4.cell? ⟨w.heap.size, 3, none⟩ = some _ := tblk_cell hg2 rfl
      have z3 : w4.frozen? ⟨w.heap.size, 3, none⟩ = false := lblk_z hg2
      have a4 : w4.cell? ⟨w.heap.size, 4, none⟩ = some _ := tblk_cell hg2 rfl
      have z4 : w4.frozen? ⟨w.heap.size, 4, none⟩ = false := lblk_z hg2
      have r0 := tblk_cell (i := 0) HW rfl
      have r1 := tblk_cell (i := 1) HW rfl
      have r2 := tblk_cell (i := 2) HW rfl
      have r3 := tblk_cell (i := 3) HW rfl
      have r4 := tblk_cell (i := 4) HW rfl
      unfold five at r0 r1 r2 r3 r4 HB
      have HB' : Hid _ := HB
      clear HB HW hg2 C2
      go_wp2
      refine bodyPost_ret (v := .tuple #[.agg #[.int .i64 0, .string ⟨#[]⟩, .int .i64 0, .slice none 0 0, .slice none 0 0], .bool false]) (by simp [results, Tryz.results48, go_sem, r0, r1, r2, r3, r4]) rfl ⟨rfl, HB'.out⟩
    · cases rr
      · rw [if_neg (by simp)]
        clear HK
        go_enter Tryz.func48, Tryz.ntmps48
        go_wp2_with fail
        refine (H1.out _ C0).mono ?_
        generalize w.alloc (.cells #[.int .i64 0, .string ⟨#[]⟩, .int .i64 0, .slice none 0 0, .slice none 0 0] 34) = w0 at *
        rintro e w1 ⟨rfl, B1⟩
        have hg1 := tblk_below hg0 B1
        have C1 := C0.trans (B1.mono C0.size)
        clear hg0 C0 B1 H1
        go_wp2_with fail
        refine (H2.out _ C1).mono ?_
        rintro e w2 ⟨rfl, B2⟩
        have hg2 := tblk_below hg1 B2
        have C2 := C1.trans (B2.mono C1.size)
        clear hg1 C1 B2 H2
        go_wp2_with fail
        refine (HN.out _).mono ?_
        rintro e w3 ⟨rfl, rfl⟩
        go_wp2_with fail
        refine (HD.out _).mono ?_
        rintro e w4 ⟨rfl, rfl⟩
        clear HD HN
        go_wp2_with fail
        refine (HR.out _).mono ?_
        rintro e w5 ⟨rfl, B3⟩
        have hg3 := tblk_below hg2 B3
        have C3 := C2.trans (B3.mono C2.size)
        clear hg2 C2 B3 HR
        have HW := five_cells hg3 (.int .i64 0) (.string ⟨#[]⟩) (.int .i64 0) (.slice none 0 0) (.slice none 0 0)
        have HB := five_below (.int .i64 0) (.string ⟨#[]⟩) (.int .i64 0) (.slice none 0 0) (.slice none 0 0) C3 (Nat.le_refl _)
        have a0 : w5.cell? ⟨w.heap.size, 0, none⟩ = some _ := tblk_cell hg3 rfl
        have z0 : w5.frozen? ⟨w.heap.size, 0, none⟩ = false := lblk_z hg3
        have a1 : w5.cell? ⟨w.heap.size, 1, none⟩ = some _ := tblk_cell hg3 rfl
        have z1 : w5.frozen? ⟨w.heap.size, 1, none⟩ = false := lblk_z hg3
        have a2 : w5.cell? ⟨w.heap.size, 2, none⟩ = some _ := tblk_cell hg3 rfl
        have z2 : w5.frozen? ⟨w.heap.size, 2, none⟩ = false := lblk_z hg3
        have a3 : w5.cell? ⟨w.heap.size, 3, none⟩ = some _ := tblk_cell hg3 rfl
        have z3 : w5.frozen? ⟨w.heap.size, 3, none⟩ = false := lblk_z hg3
        have a4 : w5.cell? ⟨w.heap.size, 4, none⟩ = some _ := tblk_cell hg3 rfl
        have z4 : w5.frozen? ⟨w.heap.size, 4, none⟩ = false := lblk_z hg3
        have r0 := tblk_cell (i := 0) HW rfl
        have r1 := tblk_cell (i := 1) HW rfl
        have r2 := tblk_cell (i := 2) HW rfl
        have r3 := tblk_cell (i := 3) HW rfl
        have r4 := tblk_cell (i := 4) HW rfl
        unfold five at r0 r1 r2 r3 r4 HB
        have HB' : Hid _ := HB
        clear HB HW hg3 C3
        go_wp2
        refine bodyPost_ret (v := .tuple #[.agg #[.int .i64 0, .string ⟨#[]⟩, .int .i64 0, .slice none 0 0, .slice none 0 0], .bool false]) (by simp [results, Tryz.results48, go_sem, r0, r1, r2, r3, r4]) rfl ⟨rfl, HB'.out⟩
      · rw [if_pos ⟨rfl, rfl, rfl⟩]
        go_enter Tryz.func48, Tryz.ntmps48
        go_wp2_with fail
        refine (H1.out _ C0).mono ?_
        generalize w.alloc (.cells #[.int .i64 0, .string ⟨#[]⟩, .int .i64 0, .slice none 0 0, .slice none 0 0] 34) = w0 at *
        rintro e w1 ⟨rfl, B1⟩
        have hg1 := tblk_below hg0 B1
        have C1 := C0.trans (B1.mono C0.size)
        clear hg0 C0 B1 H1
        go_wp2_with fail
        refine (H2.out _ C1).mono ?_
        rintro e w2 ⟨rfl, B2⟩
        have hg2 := tblk_below hg1 B2
        have C2 := C1.trans (B2.mono C1.size)
        clear hg1 C1 B2 H2
        go_wp2_with fail
        refine (HN.out _).mono ?_
        rintro e w3 ⟨rfl, rfl⟩
        go_wp2_with fail
        refine (HD.out _).mono ?_
        rintro e w4 ⟨rfl, rfl⟩
        clear HD HN
        go_wp2_with fail
        refine (HR.out _).mono ?_
        rintro e w5 ⟨rfl, B3⟩
        have hg3 := tblk_below hg2 B3
        have C3 := C2.trans (B3.mono C2.size)
        clear hg2 C2 B3 HR
        go_wp2_with fail
        refine (HK.out _).mono ?_
        rintro e w6 ⟨rfl, B4⟩
        have hg4 := tblk_below hg3 B4
        have C4 := C3.trans (B4.mono C3.size)
        clear hg3 C3 B4 HK
        have HW := five_cells hg4 (.int .i64 c) (.string r) (.int .i64 m) (.slice none 0 0) (.slice none 0 0)
        have HB := five_below (.int .i64 c) (.string r) (.int .i64 m) (.slice none 0 0) (.slice none 0 0) C4 (Nat.le_refl _)
        have a0 : w6.cell? ⟨w.heap.size, 0, none⟩ = some _ := tblk_cell hg4 rfl
        have z0 : w6.frozen? ⟨w.heap.size, 0, none⟩ = false := lblk_z hg4
        have a1 : w6.cell? ⟨w.heap.size, 1, none⟩ = some _ := tblk_cell hg4 rfl
        have z1 : w6.frozen? ⟨w.heap.size, 1, none⟩ = false := lblk_z hg4
        have a2 : w6.cell? ⟨w.heap.size, 2, none⟩ = some _ := tblk_cell hg4 rfl
        have z2 : w6.frozen? ⟨w.heap.size, 2, none⟩ = false := lblk_z hg4
        have a3 : w6.cell? ⟨w.heap.size, 3, none⟩ = some _ := tblk_cell hg4 rfl
        have z3 : w6.frozen? ⟨w.heap.size, 3, none⟩ = false := lblk_z hg4
        have a4 : w6.cell? ⟨w.heap.size, 4, none⟩ = some _ := tblk_cell hg4 rfl
        have z4 : w6.frozen? ⟨w.heap.size, 4, none⟩ = false := lblk_z hg4
        have r0 := tblk_cell (i := 0) HW rfl
        have r1 := tblk_cell (i := 1) HW rfl
        have r2 := tblk_cell (i := 2) HW rfl
        have r3 := tblk_cell (i := 3) HW rfl
        have r4 := tblk_cell (i := 4) HW rfl
        unfold five at r0 r1 r2 r3 r4 HB
        have HB' : Hid _ := HB
        clear HB HW hg4 C4
        go_wp2
        refine bodyPost_ret (v := .tuple #[.agg #[.int .i64 c, .string r, .int .i64 m, .slice none 0 0, .slice none 0 0], .bool true]) (by simp [results, Tryz.results48, go_sem, r0, r1, r2, r3, r4]) rfl ⟨rfl, HB'.out⟩
end Go.Proofs.YthbjdbookiejeabGreatDoor
