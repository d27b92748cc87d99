/- Write. -/
import Derived.Test.YtdibldocfhpnkaaDoorEnC
namespace Go.Proofs.YtdibldocfhpnkaaDoor
open Go.RowKit
set_option linter.unusedVariables false

/-- What Write answers. -/
def WrR (e : EntP) (w : World) (r : Ending) (w' : World) : Prop :=
  if rightE e = true then ∃ a c k, r = .returned (.tuple #[.slice a (lineL e).length c, .int .i64 0]) ∧ Src w' k (.slice a (lineL e).length c) (lineL e) ∧ w.heap.size ≤ k ∧ k < w'.heap.size ∧ Below w.heap.size w w'
  else r = .returned (.tuple #[.slice none 0 0, .int .i64 1]) ∧ Below w.heap.size w w'
set_option maxRecDepth 100000 in
set_option maxHeartbeats 1600000 in
theorem enwrite_any (e : EntP) (w : World) (hm : e.m.size ≤ maxLen) (ht : e.t.size ≤ maxLen) (hL : LmT w) (hP : PowT w) : Calls Tryd.prog 8 #[.agg (entV e)] w (WrR e w) := by
  unfold WrR
  have BA : Below w.heap.size w (w.alloc (.cells (entV e) 23)) := (Below.refl _ _).alloc (Nat.le_refl _) _
  have NA := tblk_new w (.cells (entV e) 23)
  have HR : Hid (∀ W, Below w.heap.size w W → Calls Tryd.prog 9 #[.agg (entV e)] W fun r w' => r = .returned (.bool (rightE e)) ∧ Below W.heap.size W w') := fun W hW => enright_any e W hm ht (hL.below hW)
  cases hr : rightE e
  · simp only [Bool.false_eq_true, if_false]
    rw [hr] at HR
    clear hr hL hP hm ht
    obtain ⟨q, a, k, n, m, t, c, u, d⟩ := e
    unfold entV at *
    simp only at *
    go_enter Tryd.func8, Tryd.ntmps8
    go_wp2_with fail
    refine (HR.out _ BA).mono ?_
    rintro r w1 ⟨rfl, B1⟩
    have D1 := BA.trans (B1.mono BA.size)
    go_wp2
    refine bodyPost_ret (v := .tuple #[.slice none 0 0, .int .i64 1]) (by simp [results, Tryd.results8, go_sem]) rfl ?_
    exact ⟨rfl, D1⟩
  · simp only [if_true]
    have HT : Hid (∀ W, Below w.heap.size w W → Calls Tryd.prog 18 #[.agg (entV e)] W fun r w' => r = .returned (.string (lineB e)) ∧ Below W.heap.size W w') := fun W hW => entell_any e W hr (hP.below hW)
    have hll := line_le hr
    have HCV : Hid (∀ W : World, ∃ v w1, (convert 9 25 (.string (lineB e))).run Tryd.prog W = .ok v w1 ∧ Src w1 W.heap.size v (lineL e) ∧ Below W.heap.size W w1 ∧ W.heap.size < w1.heap.size) := fun W => conv_src W (lineB e) (by show (lineL e).toArray.size ≤ _; rw [List.size_toArray]; unfold maxLen; omega)
    rw [hr] at HR
    generalize lineB e = LB at *
    generalize lineL e = LL at *
    clear hr hL hP hm ht hll
    obtain ⟨q, a, k, n, m, t, c, u, d⟩ := e
    unfold entV at *
    simp only at *
    go_enter Tryd.func8, Tryd.ntmps8
    go_wp2_with fail
    refine (HR.out _ BA).mono ?_
    rintro r w1 ⟨rfl, B1⟩
    have D1 := BA.trans (B1.mono BA.size)
    have N1 := tblk_below NA B1
    have c0 : w1.cell? ⟨w.heap.size, 0, none⟩ = some (.int .i64 q) := tblk_cell N1 rfl
    have c1 : w1.cell? ⟨w.heap.size, 1, none⟩ = some (.int .i64 a) := tblk_cell N1 rfl
    have c2 : w1.cell? ⟨w.heap.size, 2, none⟩ = some (.int .i64 k) := tblk_cell N1 rfl
    have c3 : w1.cell? ⟨w.heap.size, 3, none⟩ = some (.int .i64 n) := tblk_cell N1 rfl
    have c4 : w1.cell? ⟨w.heap.size, 4, none⟩ = some (.string m) := tblk_cell N1 rfl
    have c5 : w1.cell? ⟨w.heap.size, 5, none⟩ = some (.string t) := tblk_cell N1 rfl
    have c6 : w1.cell? ⟨w.heap.size, 6, none⟩ = some (.int .i64 c) := tblk_cell N1 rfl
    have c7 : w1.cell? ⟨w.heap.size, 7, none⟩ = some (.int .i64 u) := tblk_cell N1 rfl
    have c8 : w1.cell? ⟨w.heap.size, 8, none⟩ = some (.int .i64 d) := tblk_cell N1 rfl
    clear B1 N1 NA BA
    go_wp2_with fail
    refine (HT.out _ D1).mono ?_
    rintro r w2 ⟨rfl, B2⟩
    have D2 := D1.trans (B2.mono D1.size)
    obtain ⟨v3, w3, r3, S3, B3, L3⟩ := HCV.out w2
    obtain ⟨sa, sc, rfl, q1, q2, q3⟩ := S3
    have HS3 : Hid (Src w3 w2.heap.size (.slice sa LL.length sc) LL) := ⟨sa, sc, rfl, q1, q2, q3⟩
    have D3 := D2.trans (B3.mono D2.size)
    have hsz := D2.size
    clear q1 q2 q3 c0 c1 c2 c3 c4 c5 c6 c7 c8 D1 B2
    go_wp2
    refine bodyPost_ret (v := .tuple #[.slice sa LL.length sc, .int .i64 0]) (by simp [results, Tryd.results8, go_sem]) rfl ?_
    exact ⟨sa, sc, w2.heap.size, rfl, HS3.out, hsz, L3, D3⟩
end Go.Proofs.YtdibldocfhpnkaaDoor
