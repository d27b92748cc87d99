/- Package robin's closures: how far a flow's turn is away, which of two comes first, whether two are of one connection, whether one wants nothing. -/
import Derived.Test.YtnfpbkllpkbdiaaRows
import Derived.WalkKit
import Derived.WalkSpells
import Derived.WalkLawsBesides
import Derived.Laws.Pointers
import Derived.Deep.QuietTactic
import Derived.BigQuiet
import Derived.BigRegion
import Derived.RegionTactic
import Derived.Below
import Derived.Deep.RegionHeld3
namespace Go.Proofs.Ytnfpbkllpkbdiaa
open Go.RowKit
set_option linter.unusedVariables false

abbrev Fl := Int × Int
/-- How far a connection's turn is away, behind the last one. -/
def awayK (la c : Int) : Int := (c - la - 1) % 18446744073709551616
theorem awayK_bd (la c : Int) : 0 ≤ awayK la c ∧ awayK la c < 18446744073709551616 := by unfold awayK; omega
/-- In block b lies a robin: quantum, credit, the last connection. -/
def IsR (w : World) (b : Nat) (q c l : Int) : Prop := w.heap[b]? = some (.cells #[.int .i64 q, .int .i64 c, .int .i64 l] 40)
theorem IsR.c0 {w : World} {b : Nat} {q c l : Int} (x : IsR w b q c l) : w.cell? ⟨b, 0, none⟩ = some (.int .i64 q) := by unfold IsR at x; simp [World.cell?, x]
theorem IsR.c1 {w : World} {b : Nat} {q c l : Int} (x : IsR w b q c l) : w.cell? ⟨b, 1, none⟩ = some (.int .i64 c) := by unfold IsR at x; simp [World.cell?, x]
theorem IsR.c2 {w : World} {b : Nat} {q c l : Int} (x : IsR w b q c l) : w.cell? ⟨b, 2, none⟩ = some (.int .i64 l) := by unfold IsR at x; simp [World.cell?, x]
theorem IsR.z {w : World} {b : Nat} {q c l : Int} (x : IsR w b q c l) (o : Nat) : w.frozen? ⟨b, o, none⟩ = false := by unfold IsR at x; simp [World.frozen?, x]
theorem IsR.set1 {w : World} {b : Nat} {q c l : Int} (x : IsR w b q c l) (y : Int) : IsR (w.setCell ⟨b, 1, none⟩ (.int .i64 y)) b q y l := by unfold IsR at *; simp [World.setCell, Array.getElem?_modify, x]
theorem IsR.set2 {w : World} {b : Nat} {q c l : Int} (x : IsR w b q c l) (y : Int) : IsR (w.setCell ⟨b, 2, none⟩ (.int .i64 y)) b q c y := by unfold IsR at *; simp [World.setCell, Array.getElem?_modify, x]
theorem IsR.lt {w : World} {b : Nat} {q c l : Int} (x : IsR w b q c l) : b < w.heap.size := by unfold IsR at x; exact (Array.getElem?_eq_some_iff.1 x).1
theorem IsR.below {B : Nat} {w w' : World} {b : Nat} {q c l : Int} (x : IsR w b q c l) (h : Below B w w') (hb : b < B) : IsR w' b q c l := by
  unfold IsR at *; rw [h.block b hb]; exact x

set_option maxHeartbeats 400000 in
theorem rbnone_any (c n : Int) (w : World) : Calls Try.prog 18 #[.agg #[.int .i64 c, .int .i64 n]] w fun e w' => e = .returned (.bool (decide (n ≤ 0))) ∧ Below w.heap.size w w' := by
  go_enter Try.func18, Try.ntmps18
  go_wp2
  go_ret
  exact ⟨rfl, (Below.refl _ _).alloc (Nat.le_refl _) _⟩
set_option maxHeartbeats 400000 in
theorem rbeq_any (c n c' n' : Int) (w : World) : Calls Try.prog 16 #[.agg #[.int .i64 c, .int .i64 n], .agg #[.int .i64 c', .int .i64 n']] w fun e w' => e = .returned (.bool (c == c')) ∧ Below w.heap.size w w' := by
  go_enter Try.func16, Try.ntmps16
  go_wp2
  go_ret
  exact ⟨rfl, ((Below.refl _ _).alloc (Nat.le_refl _) _).alloc (by simp) _⟩
set_option maxHeartbeats 400000 in
theorem nan_any (n : Int) (w : World) : Calls Try.prog 20 #[.int .u64 n] w fun e w' => e = .returned (.bool false) ∧ w' = w := by
  go_enter Try.func20, Try.ntmps20
  go_wp2
  go_ret
  exact ⟨by simp, rfl⟩
/-- Which of two comes first. -/
def cmpU (x y : Int) : Int := if x < y then -1 else if y < x then 1 else 0
theorem below_drewN {B : Nat} {w w' : World} (h : Below B w w') (n : Nat) : Below B w (w'.drewN n) := ⟨h.os, h.tape, h.output, h.size, h.block⟩
theorem hidE {p : Prop} (h : p) : Hid p := h
set_option maxHeartbeats 400000 in
theorem cmpuint_any (x y : Int) (w : World) : Calls Try.prog 14 #[.int .u64 x, .int .u64 y] w fun e w' => e = .returned (.int .i64 (cmpU x y)) ∧ w' = w := by
  have HX := hidE (nan_any x w)
  have HY := hidE (nan_any y w)
  unfold cmpU
  rcases Int.lt_trichotomy x y with c | c | c
  · have f : ¬ y < x := by omega
    go_enter Try.func14, Try.ntmps14
    go_wp2_with fail
    refine HX.out.mono ?_
    rintro e w' ⟨rfl, rfl⟩
    go_wp2_with fail
    refine HY.out.mono ?_
    rintro e w' ⟨rfl, rfl⟩
    go_wp2
    go_ret
    simp
  · subst c
    have f : ¬ x < x := by omega
    go_enter Try.func14, Try.ntmps14
    go_wp2_with fail
    refine HX.out.mono ?_
    rintro e w' ⟨rfl, rfl⟩
    go_wp2_with fail
    refine HX.out.mono ?_
    rintro e w' ⟨rfl, rfl⟩
    go_wp2
    go_ret
    simp
  · have f : ¬ x < y := by omega
    go_enter Try.func14, Try.ntmps14
    go_wp2_with fail
    refine HX.out.mono ?_
    rintro e w' ⟨rfl, rfl⟩
    go_wp2_with fail
    refine HY.out.mono ?_
    rintro e w' ⟨rfl, rfl⟩
    go_wp2
    go_ret
    simp
theorem away_w (la c : Int) : IntKind.u64.wrap (IntKind.u64.wrap (IntKind.u64.wrap c - IntKind.u64.wrap la) - 1) = awayK la c := by
  unfold awayK
  simp only [IntKind.wrap_u64]
  omega
set_option maxHeartbeats 400000 in
theorem rbaway_any (c n q cr la : Int) (p rb : Nat) (w : World) (hp : w.cell? ⟨p, 0, none⟩ = some (.pointer (some ⟨rb, 0, none⟩))) (hpl : p < w.heap.size) (hr : IsR w rb q cr la) : Calls Try.prog 10 #[.agg #[.int .i64 c, .int .i64 n], .pointer (some ⟨p, 0, none⟩)] w fun e w' => e = .returned (.int .u64 (awayK la c)) ∧ Below w.heap.size w w' := by
  have h2 := hr.c2
  have hl := hr.lt
  have HA : Hid (IntKind.u64.wrap (IntKind.u64.wrap (IntKind.u64.wrap c - IntKind.u64.wrap la) - 1) = awayK la c) := away_w la c
  clear hr
  go_enter Try.func10, Try.ntmps10
  go_wp2_with fail
  go_quiet (fail)
  go_wp2
  go_ret
  exact ⟨by rw [HA.out]; rfl, below_drewN ((Below.refl _ _).alloc (Nat.le_refl _) _) _⟩
theorem tblk_cell {w : World} {b i : Nat} {c : Array Value} {t : TypeId} {v : Value} (h : w.heap[b]? = some (.cells c t)) (hv : c[i]? = some v) : w.cell? ⟨b, i, none⟩ = some v := by
  simp [World.cell?, h, hv]
theorem tblk_new (w : World) (o : Obj) : (w.alloc o).heap[w.heap.size]? = some o := by
  show (w.heap.push o)[w.heap.size]? = _; simp
theorem bblk2 (w : World) (o o' : Obj) : ((w.alloc o).alloc o').heap[w.heap.size + 1]? = some o' := by
  have k := tblk_new (w.alloc o) o'
  rw [show (w.alloc o).heap.size = w.heap.size + 1 from by simp] at k
  exact k
/-- The cells that the comparison reads. -/
def CS (w : World) (p2 g p : Nat) (c n c' n' : Int) : Prop := w.cell? ⟨p2, 0, none⟩ = some (.func (.func 10) #[] #[.pointer (some ⟨p, 0, none⟩)]) ∧ w.cell? ⟨g, 0, none⟩ = some (.int .i64 c) ∧ w.cell? ⟨g, 1, none⟩ = some (.int .i64 n) ∧ w.cell? ⟨g + 1, 0, none⟩ = some (.int .i64 c') ∧ w.cell? ⟨g + 1, 1, none⟩ = some (.int .i64 n')
theorem CS.below {w w' : World} {p2 g p : Nat} {c n c' n' : Int} (h : CS w p2 g p c n c' n') (hp : p2 < g) (b : Below (g + 2) w w') : CS w' p2 g p c n c' n' :=
  ⟨(b.cell (p := ⟨p2, 0, none⟩) (by show p2 < g + 2; omega)).trans h.1, (b.cell (p := ⟨g, 0, none⟩) (by show g < g + 2; omega)).trans h.2.1, (b.cell (p := ⟨g, 1, none⟩) (by show g < g + 2; omega)).trans h.2.2.1, (b.cell (p := ⟨g + 1, 0, none⟩) (by show g + 1 < g + 2; omega)).trans h.2.2.2.1, (b.cell (p := ⟨g + 1, 1, none⟩) (by show g + 1 < g + 2; omega)).trans h.2.2.2.2⟩
theorem CS.new {w : World} {p2 p : Nat} {c n c' n' : Int} (hp2 : w.cell? ⟨p2, 0, none⟩ = some (.func (.func 10) #[] #[.pointer (some ⟨p, 0, none⟩)])) (hpl : p2 < w.heap.size) : CS ((w.alloc (.cells #[.int .i64 c, .int .i64 n] 31)).alloc (.cells #[.int .i64 c', .int .i64 n'] 31)) p2 w.heap.size p c n c' n' := by
  have b : Below w.heap.size w ((w.alloc (.cells #[.int .i64 c, .int .i64 n] 31)).alloc (.cells #[.int .i64 c', .int .i64 n'] 31)) := ((Below.refl _ _).alloc (Nat.le_refl _) _).alloc (by simp) _
  refine ⟨(b.cell (p := ⟨p2, 0, none⟩) hpl).trans hp2, ?_⟩
  have n1 : ((w.alloc (.cells #[.int .i64 c, .int .i64 n] 31)).alloc (.cells #[.int .i64 c', .int .i64 n'] 31)).heap[w.heap.size]? = some (.cells #[.int .i64 c, .int .i64 n] 31) := (Below.heap_alloc _ _ _ (by simp)).trans (tblk_new _ _)
  have n2 := bblk2 w (.cells #[.int .i64 c, .int .i64 n] 31) (.cells #[.int .i64 c', .int .i64 n'] 31)
  exact ⟨tblk_cell n1 rfl, tblk_cell n1 rfl, tblk_cell n2 rfl, tblk_cell n2 rfl⟩
set_option maxHeartbeats 1000000 in
theorem rbcmp_any (c n c' n' q cr la : Int) (p p2 rb : Nat) (w : World) (hp2 : w.cell? ⟨p2, 0, none⟩ = some (.func (.func 10) #[] #[.pointer (some ⟨p, 0, none⟩)])) (hpl2 : p2 < w.heap.size) (hp : w.cell? ⟨p, 0, none⟩ = some (.pointer (some ⟨rb, 0, none⟩))) (hpl : p < w.heap.size) (hr : IsR w rb q cr la) :
    Calls Try.prog 13 #[.agg #[.int .i64 c, .int .i64 n], .agg #[.int .i64 c', .int .i64 n'], .pointer (some ⟨p2, 0, none⟩)] w fun e w' => e = .returned (.int .i64 (cmpU (awayK la c) (awayK la c'))) ∧ Below w.heap.size w w' := by
  have b0 : Below w.heap.size w ((w.alloc (.cells #[.int .i64 c, .int .i64 n] 31)).alloc (.cells #[.int .i64 c', .int .i64 n'] 31)) := ((Below.refl _ _).alloc (Nat.le_refl _) _).alloc (by simp) _
  have hz : ((w.alloc (.cells #[.int .i64 c, .int .i64 n] 31)).alloc (.cells #[.int .i64 c', .int .i64 n'] 31)).heap.size = w.heap.size + 2 := by simp
  have HF : Hid (∀ (c1 n1 : Int) (W : World), Below (w.heap.size + 2) ((w.alloc (.cells #[.int .i64 c, .int .i64 n] 31)).alloc (.cells #[.int .i64 c', .int .i64 n'] 31)) W → Calls Try.prog 10 #[.agg #[.int .i64 c1, .int .i64 n1], .pointer (some ⟨p, 0, none⟩)] W fun e w' => e = .returned (.int .u64 (awayK la c1)) ∧ Below (w.heap.size + 2) ((w.alloc (.cells #[.int .i64 c, .int .i64 n] 31)).alloc (.cells #[.int .i64 c', .int .i64 n'] 31)) w' ∧ CS w' p2 w.heap.size p c n c' n') := fun c1 n1 W hW => by
    have hw := b0.trans (hW.mono (by omega))
    refine (rbaway_any c1 n1 q cr la p rb W ((hw.cell (p := ⟨p, 0, none⟩) hpl).trans hp) (Nat.lt_of_lt_of_le hpl hw.size) (hr.below hw hr.lt)).mono fun e w' he => ?_
    have hx := hW.trans (he.2.mono (by have := hW.size; omega))
    exact ⟨he.1, hx, (CS.new hp2 hpl2).below hpl2 hx⟩
  have HC : Hid (∀ (x y : Int) (W : World), Calls Try.prog 14 #[.int .u64 x, .int .u64 y] W fun e w' => e = .returned (.int .i64 (cmpU x y)) ∧ w' = W) := cmpuint_any
  have U0 : Below (w.heap.size + 2) ((w.alloc (.cells #[.int .i64 c, .int .i64 n] 31)).alloc (.cells #[.int .i64 c', .int .i64 n'] 31)) ((w.alloc (.cells #[.int .i64 c, .int .i64 n] 31)).alloc (.cells #[.int .i64 c', .int .i64 n'] 31)) := Below.refl _ _
  have S0 := CS.new (c := c) (n := n) (c' := c') (n' := n') hp2 hpl2
  have HB : Hid (Below w.heap.size w ((w.alloc (.cells #[.int .i64 c, .int .i64 n] 31)).alloc (.cells #[.int .i64 c', .int .i64 n'] 31))) := b0
  clear hp hpl hr hp2 hpl2 hz b0
  go_enter Try.func13, Try.ntmps13
  go_wp2_with fail
  generalize (w.alloc (.cells #[.int .i64 c, .int .i64 n] 31)).alloc (.cells #[.int .i64 c', .int .i64 n'] 31) = W0 at *
  generalize hg : w.heap.size = g at *
  unfold CS at S0 HF
  obtain ⟨s0, s1, s2, s3, s4⟩ := S0
  go_region_held3 (fun W => W.cell? ⟨p2, 0, none⟩ = some (.func (.func 10) #[] #[.pointer (some ⟨p, 0, none⟩)]) ∧ W.cell? ⟨g, 0, none⟩ = some (.int .i64 c) ∧ W.cell? ⟨g, 1, none⟩ = some (.int .i64 n) ∧ W.cell? ⟨g + 1, 0, none⟩ = some (.int .i64 c') ∧ W.cell? ⟨g + 1, 1, none⟩ = some (.int .i64 n')) (go_keep) (first | (go_at_call 10; refine (HF.out _ _ _ (by first | assumption | exact U0.drew)).mono ?_; rintro e w' ⟨rfl, hB, hS⟩) | (go_at_call 14; refine (HC.out _ _ _).mono ?_; rintro e w' ⟨rfl, rfl⟩))
  all_goals
    go_wp2
    go_ret
    exact ⟨rfl, by rw [hg]; exact HB.out.trans (Below.mono (by assumption) (by omega))⟩
end Go.Proofs.Ytnfpbkllpkbdiaa
