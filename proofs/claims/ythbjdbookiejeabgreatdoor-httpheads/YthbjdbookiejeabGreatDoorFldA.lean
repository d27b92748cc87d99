/- Fields: which are right; a line read and told. -/
import Derived.Test.YthbjdbookiejeabGreatDoorSgnV
import Derived.Test.YthbjdbookiejeabGreatDoorTrimA
import Derived.Test.YthbjdbookiejeabGreatDoorShCut
namespace Go.Proofs.YthbjdbookiejeabGreatDoor
open Go.RowKit
set_option linter.unusedVariables false

def eqT (a b : ByteArray) : Bool := a.toList == b.toList
def okName (n : ByteArray) : Bool := decide (n.size ≤ 100) && (allB tokP n.data.toList && decide (0 < n.size))
def okVal (v : ByteArray) : Bool := (decide (v.size ≤ 1000) && allB valP v.data.toList) && eqT (trimT v) v
def okF (n v : ByteArray) : Bool := okName n && okVal v
/-- A field, as a value. -/
def fv (n v : ByteArray) : Value := .agg #[.string n, .string v]

set_option maxHeartbeats 1000000 in
theorem rn_any (n : ByteArray) (w : World) (hs : n.size ≤ 140737488355328) : Calls Tryz.prog 111 #[.string n] w fun e w' => e = .returned (.bool (okName n)) ∧ Below w.heap.size w w' := by
  have HT := token_any n w (by unfold maxLen; omega)
  unfold okName
  generalize (allB tokP n.data.toList && decide (0 < n.size)) = t at *
  have HT2 : Hid (Calls Tryz.prog 44 #[.string n] w fun e w' => e = .returned (.bool t) ∧ Below w.heap.size w w') := HT
  clear HT
  by_cases h : n.size ≤ 100
  · have h' : (n.size : Int) ≤ 100 := by omega
    rw [decide_eq_true h, Bool.true_and]
    clear h
    go_enter Tryz.func111, Tryz.ntmps111
    go_wp2_with fail
    refine HT2.out.mono ?_
    rintro e w1 ⟨rfl, B1⟩
    go_wp2
    go_ret
    exact ⟨rfl, B1⟩
  · have h' : ¬ (n.size : Int) ≤ 100 := by omega
    rw [decide_eq_false h, Bool.false_and]
    clear h
    go_enter Tryz.func111, Tryz.ntmps111
    go_wp2
    go_ret
    exact ⟨rfl, Below.refl _ _⟩

set_option maxHeartbeats 1000000 in
theorem rv_any (v : ByteArray) (w : World) (hs : v.size ≤ 140737488355328) : Calls Tryz.prog 112 #[.string v] w fun e w' => e = .returned (.bool (okVal v)) ∧ Below w.heap.size w w' := by
  have HV := value_any v w (by unfold maxLen; omega)
  have HT := fun w => trim_any v w hs
  unfold okVal eqT
  by_cases h : v.size ≤ 1000
  · have h' : (v.size : Int) ≤ 1000 := by omega
    rw [decide_eq_true h, Bool.true_and]
    clear h
    generalize trimT v = T at *
    cases hv : allB valP v.data.toList
    · rw [hv] at HV
      have HV2 : Hid (Calls Tryz.prog 120 #[.string v] w fun e w' => e = .returned (.bool false) ∧ Below w.heap.size w w') := HV
      clear HV HT hv
      rw [Bool.false_and]
      go_enter Tryz.func112, Tryz.ntmps112
      go_wp2_with fail
      refine HV2.out.mono ?_
      rintro e w1 ⟨rfl, B1⟩
      go_wp2
      go_ret
      exact ⟨rfl, B1⟩
    · rw [hv] at HV
      have HV2 : Hid (Calls Tryz.prog 120 #[.string v] w fun e w' => e = .returned (.bool true) ∧ Below w.heap.size w w') := HV
      have HT2 : Hid (∀ w, Calls Tryz.prog 75 #[.string v] w fun e w' => e = .returned (.string T) ∧ Below w.heap.size w w') := HT
      clear HV HT hv
      rw [Bool.true_and]
      go_enter Tryz.func112, Tryz.ntmps112
      go_wp2_with fail
      refine HV2.out.mono ?_
      rintro e w1 ⟨rfl, B1⟩
      go_wp2_with fail
      refine (HT2.out w1).mono ?_
      rintro e w2 ⟨rfl, B2⟩
      go_wp2
      go_ret
      exact ⟨rfl, B1.trans (B2.mono B1.size)⟩
  · have h' : ¬ (v.size : Int) ≤ 1000 := by omega
    rw [decide_eq_false h, Bool.false_and, Bool.false_and]
    clear h HV HT
    go_enter Tryz.func112, Tryz.ntmps112
    go_wp2
    go_ret
    exact ⟨rfl, Below.refl _ _⟩

set_option maxHeartbeats 1000000 in
theorem wrong_any (n v : ByteArray) (w : World) (hn : n.size ≤ 140737488355328) (hv : v.size ≤ 140737488355328) : Calls Tryz.prog 76 #[.agg #[.string n, .string v]] w fun e w' => e = .returned (.bool (!okF n v)) ∧ Below w.heap.size w w' := by
  unfold okF
  have HN := fun w => rn_any n w hn
  have HV := fun w => rv_any v w hv
  generalize okName n = a at *
  generalize okVal v = b at *
  have HN2 : Hid (∀ w, Calls Tryz.prog 111 #[.string n] w fun e w' => e = .returned (.bool a) ∧ Below w.heap.size w w') := HN
  have HV2 : Hid (∀ w, Calls Tryz.prog 112 #[.string v] w fun e w' => e = .returned (.bool b) ∧ Below w.heap.size w w') := HV
  clear HN HV hn hv
  cases a
  · go_enter Tryz.func76, Tryz.ntmps76
    go_wp2_with fail
    refine (HN2.out _).mono ?_
    rintro e w1 ⟨rfl, B1⟩
    have C1 := ((Below.refl w.heap.size w).alloc (Nat.le_refl _) (.cells #[.string n, .string v] 53)).trans (B1.mono (by simp))
    go_wp2
    go_ret
    exact ⟨rfl, C1⟩
  · go_enter Tryz.func76, Tryz.ntmps76
    go_wp2_with fail
    refine (HN2.out _).mono ?_
    rintro e w1 ⟨rfl, B1⟩
    have C1 := ((Below.refl w.heap.size w).alloc (Nat.le_refl _) (.cells #[.string n, .string v] 53)).trans (B1.mono (by simp))
    have hc : w1.cell? ⟨w.heap.size, 1, none⟩ = some (.string v) := tblk_cell ((B1.block _ (by simp)).trans (tblk_new _ _)) rfl
    clear B1
    go_wp2_with fail
    refine (HV2.out _).mono ?_
    rintro e w2 ⟨rfl, B2⟩
    go_wp2
    go_ret
    exact ⟨by simp, C1.trans (B2.mono C1.size)⟩

/-- What Parse answers. -/
def prs (s : ByteArray) : ByteArray × ByteArray × Int :=
  if (Lib.cut s.data.toList [58]).2.2 && okF ⟨(Lib.cut s.data.toList [58]).1.toArray⟩ (trimT ⟨(Lib.cut s.data.toList [58]).2.1.toArray⟩) then (⟨(Lib.cut s.data.toList [58]).1.toArray⟩, trimT ⟨(Lib.cut s.data.toList [58]).2.1.toArray⟩, 0) else (⟨#[]⟩, ⟨#[]⟩, 20)
theorem cut_len (l : List UInt8) : (Lib.cut l [58]).1.length ≤ l.length ∧ (Lib.cut l [58]).2.1.length ≤ l.length := by
  unfold Lib.cut
  split
  · simp only [List.length_take, List.length_drop]; omega
  · simp

theorem drewN_heap (w : World) (k : Nat) : (w.drewN k).heap = w.heap := by simp [World.drewN]
theorem below_drewN (B : Nat) (w : World) (k : Nat) : Below B w (w.drewN k) := by refine ⟨?_, ?_, ?_, ?_, ?_⟩ <;> simp [World.drewN]
theorem tblk_z {w : World} {b i : Nat} {c : Array Value} {t : TypeId} (h : w.heap[b]? = some (.cells c t)) : w.frozen? ⟨b, i, none⟩ = false := by simp [World.frozen?, h]
/-- A field's block, written over. -/
theorem two_cells {w : World} {b : Nat} {x y : Value} {t : TypeId} (h : w.heap[b]? = some (.cells #[x, y] t)) (n v : ByteArray) :
    ((w.setCell ⟨b, 0, none⟩ (.string n)).setCell ⟨b, 1, none⟩ (.string v)).heap[b]? = some (.cells #[.string n, .string v] t) ∧
    ((w.setCell ⟨b, 0, none⟩ (.string n)).setCell ⟨b, 1, none⟩ (.string v)).cell? ⟨b, 0, none⟩ = some (.string n) ∧
    ((w.setCell ⟨b, 0, none⟩ (.string n)).setCell ⟨b, 1, none⟩ (.string v)).cell? ⟨b, 1, none⟩ = some (.string v) ∧ True := by
  have k : ((w.setCell ⟨b, 0, none⟩ (.string n)).setCell ⟨b, 1, none⟩ (.string v)).heap[b]? = some (.cells #[.string n, .string v] t) := by
    simp [World.setCell, Array.getElem?_modify, h]
  exact ⟨k, tblk_cell k rfl, tblk_cell k rfl, trivial⟩

set_option maxRecDepth 100000 in
set_option maxHeartbeats 2000000 in
theorem parse_any (s : ByteArray) (w : World) (hs : s.size < 4294967281) (hM : MaxL w) : Calls Tryz.prog 42 #[.string s] w fun e w' => e = .returned (.tuple #[.agg #[.string (prs s).1, .string (prs s).2.1], .int .i64 (prs s).2.2]) ∧ Below w.heap.size w w' := by
  obtain ⟨m, hm⟩ := hM
  have hlt : 0 < w.heap.size := MaxL.lt ⟨m, hm⟩
  have hcl := cut_len s.data.toList
  have hsz : s.data.toList.length = s.size := rfl
  unfold prs
  have HC : Hid (∀ w : World, w.cell? ⟨0, 0, none⟩ = some (.int .i64 m) → Calls Tryz.prog 74 #[.string s, .string ⟨#[58]⟩] w fun e w' => e = .returned (.tuple #[.string ⟨(Lib.cut s.data.toList [58]).1.toArray⟩, .string ⟨(Lib.cut s.data.toList [58]).2.1.toArray⟩, .bool (Lib.cut s.data.toList [58]).2.2]) ∧ ∃ n, w' = w.drewN n) := fun w hm => Tryz.strings_Cut s ⟨#[58]⟩ m w hs hm
  generalize (Lib.cut s.data.toList [58]) = c at *
  obtain ⟨c1, c2, c3⟩ := c
  simp only at hcl HC ⊢
  have hn : Hid ((⟨c1.toArray⟩ : ByteArray).size ≤ 140737488355328) := by rw [Hid]; show c1.length ≤ _; omega
  have hv : Hid ((⟨c2.toArray⟩ : ByteArray).size ≤ 140737488355328) := by rw [Hid]; show c2.length ≤ _; omega
  have hm2 : (w.alloc (.cells #[.string ⟨#[]⟩, .string ⟨#[]⟩] 53)).cell? ⟨0, 0, none⟩ = some (.int .i64 m) := by
    rw [← hm]; simp only [World.cell?]; rw [Below.heap_alloc _ _ _ hlt]
  have hvt := trimT_size ⟨c2.toArray⟩
  generalize (⟨c1.toArray⟩ : ByteArray) = n at *
  generalize (⟨c2.toArray⟩ : ByteArray) = v at *
  have hv2 : Hid ((trimT v).size ≤ 140737488355328) := by rw [Hid]; have := hv.out; omega
  clear hvt hm hs hcl hsz
  have HTR : Hid (∀ W, Calls Tryz.prog 75 #[.string v] W fun e w' => e = .returned (.string (trimT v)) ∧ Below W.heap.size W w') := fun W => trim_any v W hv.out
  have HWR2 : Hid (∀ W, Calls Tryz.prog 76 #[.agg #[.string n, .string (trimT v)]] W fun e w' => e = .returned (.bool (!okF n (trimT v))) ∧ Below W.heap.size W w') := fun W => wrong_any n (trimT v) W hn.out hv2.out
  generalize trimT v = T at *
  generalize okF n T = ok at *
  cases c3
  · rw [Bool.false_and, if_neg (by decide)]
    go_enter Tryz.func42, Tryz.ntmps42
    go_wp2_with fail
    refine (HC.out _ hm2).mono ?_
    rintro e w1 ⟨rfl, k, rfl⟩
    have hg : ((w.alloc (.cells #[.string ⟨#[]⟩, .string ⟨#[]⟩] 53)).drewN k).heap[w.heap.size]? = some (.cells #[.string ⟨#[]⟩, .string ⟨#[]⟩] 53) := by rw [drewN_heap]; exact tblk_new _ _
    have C1 : Below w.heap.size w ((w.alloc (.cells #[.string ⟨#[]⟩, .string ⟨#[]⟩] 53)).drewN k) := ((Below.refl _ _).alloc (Nat.le_refl _) _).trans (below_drewN _ _ _)
    generalize (w.alloc (.cells #[.string ⟨#[]⟩, .string ⟨#[]⟩] 53)).drewN k = w2 at *
    clear hm2 HC
    have HW := two_cells hg ⟨#[]⟩ ⟨#[]⟩
    have r0 := HW.2.1
    have r1 := HW.2.2.1
    have a0 : w2.cell? ⟨w.heap.size, 0, none⟩ = some (.string ⟨#[]⟩) := tblk_cell hg rfl
    have a1 : w2.cell? ⟨w.heap.size, 1, none⟩ = some (.string ⟨#[]⟩) := tblk_cell hg rfl
    have z0 : w2.frozen? ⟨w.heap.size, 0, none⟩ = false := tblk_z hg
    have z1 : w2.frozen? ⟨w.heap.size, 1, none⟩ = false := tblk_z hg
    have C2 : Hid (Below w.heap.size w ((w2.setCell ⟨w.heap.size, 0, none⟩ (.string ⟨#[]⟩)).setCell ⟨w.heap.size, 1, none⟩ (.string ⟨#[]⟩))) := (C1.setCell (p := ⟨w.heap.size, 0, none⟩) (Nat.le_refl _) _).setCell (p := ⟨w.heap.size, 1, none⟩) (Nat.le_refl _) _
    clear hg HW C1
    go_wp2
    refine bodyPost_ret (v := .tuple #[.agg #[.string ⟨#[]⟩, .string ⟨#[]⟩], .int .i64 20]) (by simp [results, Tryz.results42, go_sem, r0, r1]) rfl ⟨rfl, C2.out⟩
  · cases ok
    · rw [Bool.true_and, if_neg (by decide)]
      go_enter Tryz.func42, Tryz.ntmps42
      go_wp2_with fail
      refine (HC.out _ hm2).mono ?_
      rintro e w1 ⟨rfl, k, rfl⟩
      have hg : ((w.alloc (.cells #[.string ⟨#[]⟩, .string ⟨#[]⟩] 53)).drewN k).heap[w.heap.size]? = some (.cells #[.string ⟨#[]⟩, .string ⟨#[]⟩] 53) := by rw [drewN_heap]; exact tblk_new _ _
      have C1 : Below w.heap.size w ((w.alloc (.cells #[.string ⟨#[]⟩, .string ⟨#[]⟩] 53)).drewN k) := ((Below.refl _ _).alloc (Nat.le_refl _) _).trans (below_drewN _ _ _)
      generalize (w.alloc (.cells #[.string ⟨#[]⟩, .string ⟨#[]⟩] 53)).drewN k = w2 at *
      clear hm2 HC
      go_wp2_with fail
      refine (clone_any n _ (by have := hn.out; omega)).mono ?_
      rintro e w3 ⟨rfl, B3⟩
      have g3 := tblk_below hg B3
      have C3 := C1.trans (B3.mono C1.size)
      clear hg C1 B3
      go_wp2_with fail
      refine (HTR.out _).mono ?_
      rintro e w4 ⟨rfl, B4⟩
      have g4 := tblk_below g3 B4
      have C4 := C3.trans (B4.mono C3.size)
      clear g3 C3 B4
      have hl4 : w.heap.size < w4.heap.size := (Array.getElem?_eq_some_iff.1 g4).1
      go_wp2_with fail
      refine (HWR2.out _).mono ?_
      rintro e w5 ⟨rfl, B5⟩
      have B45 : Below w4.heap.size w4 w5 := ((Below.refl w4.heap.size w4).alloc (Nat.le_refl _) (.cells #[.string n, .string T] 53)).trans (B5.mono (by simp))
      have g5 := tblk_below g4 B45
      have f5 : w5.heap[w4.heap.size]? = some (.cells #[.string n, .string T] 53) := (B5.block _ (by simp)).trans (tblk_new _ _)
      have C5 := C4.trans (B45.mono C4.size)
      clear B5 B45 g4 C4 HWR2
      have a0 : w5.cell? ⟨w.heap.size, 0, none⟩ = some (.string ⟨#[]⟩) := tblk_cell g5 rfl
      have a1 : w5.cell? ⟨w.heap.size, 1, none⟩ = some (.string ⟨#[]⟩) := tblk_cell g5 rfl
      have b0 : w5.cell? ⟨w4.heap.size, 0, none⟩ = some (.string n) := tblk_cell f5 rfl
      have b1 : w5.cell? ⟨w4.heap.size, 1, none⟩ = some (.string T) := tblk_cell f5 rfl
      have z0 : w5.frozen? ⟨w.heap.size, 0, none⟩ = false := tblk_z g5
      have z1 : w5.frozen? ⟨w.heap.size, 1, none⟩ = false := tblk_z g5
      have HW := two_cells g5 ⟨#[]⟩ ⟨#[]⟩
      have r0 := HW.2.1
      have r1 := HW.2.2.1
      have C6 : Hid (Below w.heap.size w ((w5.setCell ⟨w.heap.size, 0, none⟩ (.string ⟨#[]⟩)).setCell ⟨w.heap.size, 1, none⟩ (.string ⟨#[]⟩))) := (C5.setCell (p := ⟨w.heap.size, 0, none⟩) (Nat.le_refl _) _).setCell (p := ⟨w.heap.size, 1, none⟩) (Nat.le_refl _) _
      clear g5 f5 HW C5
      go_wp2
      refine bodyPost_ret (v := .tuple #[.agg #[.string ⟨#[]⟩, .string ⟨#[]⟩], .int .i64 20]) (by simp [results, Tryz.results42, go_sem, r0, r1]) rfl ⟨rfl, C6.out⟩
    · rw [Bool.true_and, if_pos rfl]
      go_enter Tryz.func42, Tryz.ntmps42
      go_wp2_with fail
      refine (HC.out _ hm2).mono ?_
      rintro e w1 ⟨rfl, k, rfl⟩
      have hg : ((w.alloc (.cells #[.string ⟨#[]⟩, .string ⟨#[]⟩] 53)).drewN k).heap[w.heap.size]? = some (.cells #[.string ⟨#[]⟩, .string ⟨#[]⟩] 53) := by rw [drewN_heap]; exact tblk_new _ _
      have C1 : Below w.heap.size w ((w.alloc (.cells #[.string ⟨#[]⟩, .string ⟨#[]⟩] 53)).drewN k) := ((Below.refl _ _).alloc (Nat.le_refl _) _).trans (below_drewN _ _ _)
      generalize (w.alloc (.cells #[.string ⟨#[]⟩, .string ⟨#[]⟩] 53)).drewN k = w2 at *
      clear hm2 HC
      go_wp2_with fail
      refine (clone_any n _ (by have := hn.out; omega)).mono ?_
      rintro e w3 ⟨rfl, B3⟩
      have g3 := tblk_below hg B3
      have C3 := C1.trans (B3.mono C1.size)
      clear hg C1 B3
      go_wp2_with fail
      refine (HTR.out _).mono ?_
      rintro e w4 ⟨rfl, B4⟩
      have g4 := tblk_below g3 B4
      have C4 := C3.trans (B4.mono C3.size)
      clear g3 C3 B4
      have hl4 : w.heap.size < w4.heap.size := (Array.getElem?_eq_some_iff.1 g4).1
      go_wp2_with fail
      refine (HWR2.out _).mono ?_
      rintro e w5 ⟨rfl, B5⟩
      have B45 : Below w4.heap.size w4 w5 := ((Below.refl w4.heap.size w4).alloc (Nat.le_refl _) (.cells #[.string n, .string T] 53)).trans (B5.mono (by simp))
      have g5 := tblk_below g4 B45
      have f5 : w5.heap[w4.heap.size]? = some (.cells #[.string n, .string T] 53) := (B5.block _ (by simp)).trans (tblk_new _ _)
      have C5 := C4.trans (B45.mono C4.size)
      clear B5 B45 g4 C4 HWR2
      have a0 : w5.cell? ⟨w.heap.size, 0, none⟩ = some (.string ⟨#[]⟩) := tblk_cell g5 rfl
      have a1 : w5.cell? ⟨w.heap.size, 1, none⟩ = some (.string ⟨#[]⟩) := tblk_cell g5 rfl
      have b0 : w5.cell? ⟨w4.heap.size, 0, none⟩ = some (.string n) := tblk_cell f5 rfl
      have b1 : w5.cell? ⟨w4.heap.size, 1, none⟩ = some (.string T) := tblk_cell f5 rfl
      have z0 : w5.frozen? ⟨w.heap.size, 0, none⟩ = false := tblk_z g5
      have z1 : w5.frozen? ⟨w.heap.size, 1, none⟩ = false := tblk_z g5
      have HW := two_cells g5 n T
      have r0 := HW.2.1
      have r1 := HW.2.2.1
      have C6 : Hid (Below w.heap.size w ((w5.setCell ⟨w.heap.size, 0, none⟩ (.string n)).setCell ⟨w.heap.size, 1, none⟩ (.string T))) := (C5.setCell (p := ⟨w.heap.size, 0, none⟩) (Nat.le_refl _) _).setCell (p := ⟨w.heap.size, 1, none⟩) (Nat.le_refl _) _
      clear g5 f5 HW C5
      go_wp2
      refine bodyPost_ret (v := .tuple #[.agg #[.string n, .string T], .int .i64 0]) (by simp [results, Tryz.results42, go_sem, r0, r1]) rfl ⟨rfl, C6.out⟩

end Go.Proofs.YthbjdbookiejeabGreatDoor
