/- Right: what it answers of every record. -/
import Derived.Test.YtdibldocfhpnkaaDoorEnA
namespace Go.Proofs.YtdibldocfhpnkaaDoor
open Go.RowKit
set_option linter.unusedVariables false

set_option maxRecDepth 100000 in
set_option maxHeartbeats 1600000 in
theorem enright_any (e : EntP) (w : World) (hm : e.m.size ≤ maxLen) (ht : e.t.size ≤ maxLen) (hL : LmT w) : Calls Tryd.prog 9 #[.agg (entV e)] w fun r w' => r = .returned (.bool (rightE e)) ∧ Below w.heap.size w w' := by
  have HN : Hid (∀ W, Calls Tryd.prog 19 #[.agg (entV e)] W fun r w' => r = .returned (.agg (arrV e)) ∧ Below W.heap.size W w') := fun W => ennums_any e W
  have HW : Hid (∀ W, Below w.heap.size w W → Calls Tryd.prog 20 #[.agg (arrV e)] W fun r w' => r = .returned (.bool (withinP e)) ∧ Below W.heap.size W w') := fun W hW => enwithin_any e W (hL.below hW)
  have HT : Hid (∀ W, Calls Tryd.prog 21 #[.string e.m] W fun r w' => r = .returned (.bool (tokS e.m)) ∧ Below W.heap.size W w') := fun W => token_any e.m W hm
  have HG : Hid (∀ W, Calls Tryd.prog 22 #[.string e.t] W fun r w' => r = .returned (.bool (tgtP e.t)) ∧ Below W.heap.size W w') := fun W => starget_any e.t W ht
  have HR : Hid (rightE e = (withinP e && (decide (e.m.size ≤ 20) && (tokS e.m && (decide (e.t.size ≤ 512) && tgtP e.t))))) := rfl
  generalize rightE e = R at *
  generalize withinP e = b0 at *
  generalize tokS e.m = b1 at *
  generalize tgtP e.t = b2 at *
  have BA : Below w.heap.size w (w.alloc (.cells (entV e) 23)) := (Below.refl _ _).alloc (Nat.le_refl _) _
  have NA := tblk_new w (.cells (entV e) 23)
  have sA : (w.alloc (.cells (entV e) 23)).heap.size = w.heap.size + 1 := by simp
  obtain ⟨A, hA⟩ : ∃ A, A = entV e := ⟨_, rfl⟩
  obtain ⟨q, a, k, n, m, t, c, u, d⟩ := e
  unfold entV at *
  simp only at *
  unfold maxLen at hm ht
  clear hL hA
  generalize hAr : arrV ⟨q, a, k, n, m, t, c, u, d⟩ = AR at *
  clear hAr
  go_enter Tryd.func9, Tryd.ntmps9
  go_wp2_with fail
  refine (HN.out _).mono ?_
  rintro r w1 ⟨rfl, B1⟩
  have D1 := BA.trans (B1.mono BA.size)
  have N1 := tblk_below NA B1
  go_wp2_with fail
  refine (HW.out _ D1).mono ?_
  rintro r w2 ⟨rfl, B2⟩
  have D2 := D1.trans (B2.mono D1.size)
  have N2 := tblk_below N1 B2
  clear NA N1 B1 B2 BA HN HW D1
  have c4 : w2.cell? ⟨w.heap.size, 4, none⟩ = some (.string m) := tblk_cell N2 rfl
  have c5 : w2.cell? ⟨w.heap.size, 5, none⟩ = some (.string t) := tblk_cell N2 rfl
  cases b0 with
  | false =>
    have hF : Hid (false = R) := by rw [Hid, HR.out]; rfl
    go_wp2
    go_ret
    exact ⟨ret_b hF.out, D2⟩
  | true =>
    rcases Nat.lt_or_ge 20 m.size with h | h
    · have hF : Hid (false = R) := by rw [Hid, HR.out, decide_eq_false (by omega)]; rfl
      have h' : decide ((m.size : Int) ≤ 20) = false := decide_eq_false (by omega)
      clear h
      go_wp2
      go_ret
      exact ⟨ret_b hF.out, D2⟩
    · have h' : decide ((m.size : Int) ≤ 20) = true := decide_eq_true (by omega)
      have h2 : Hid (R = (b1 && (decide (t.size ≤ 512) && b2))) := by rw [Hid, HR.out, decide_eq_true h]; rfl
      clear h HR
      go_wp2_with fail
      refine (HT.out _).mono ?_
      rintro r w3 ⟨rfl, B3⟩
      have D3 := D2.trans (B3.mono D2.size)
      have N3 := tblk_below N2 B3
      have c53 : w3.cell? ⟨w.heap.size, 5, none⟩ = some (.string t) := tblk_cell N3 rfl
      clear N2 B3 D2 c4 c5
      cases b1 with
      | false =>
        have hF : Hid (false = R) := by rw [Hid, h2.out]; rfl
        go_wp2
        go_ret
        exact ⟨ret_b hF.out, D3⟩
      | true =>
        rcases Nat.lt_or_ge 512 t.size with g | g
        · have hF : Hid (false = R) := by rw [Hid, h2.out, decide_eq_false (by omega)]; rfl
          have g' : decide ((t.size : Int) ≤ 512) = false := decide_eq_false (by omega)
          clear g
          go_wp2
          go_ret
          exact ⟨ret_b hF.out, D3⟩
        · have g' : decide ((t.size : Int) ≤ 512) = true := decide_eq_true (by omega)
          have hF : Hid (b2 = R) := by rw [Hid, h2.out, decide_eq_true g]; rfl
          clear g h2
          go_wp2_with fail
          refine (HG.out _).mono ?_
          rintro r w4 ⟨rfl, B4⟩
          have D4 := D3.trans (B4.mono D3.size)
          go_wp2
          go_ret
          exact ⟨ret_b hF.out, D4⟩
end Go.Proofs.YtdibldocfhpnkaaDoor
