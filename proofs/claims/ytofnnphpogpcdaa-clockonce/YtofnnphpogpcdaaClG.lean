/- Clock's queue: Pop. -/
import Derived.Test.YtofnnphpogpcdaaClF
namespace Go.Proofs.Ytofnnphpogpcdaa
open Go.RowKit
set_option linter.unusedVariables false

theorem atM_app_lt (E : List Mo) (x : Mo) {k : Nat} (h : k < E.length) : atM (E ++ [x]) k = atM E k := by rw [atM_app, if_pos h]
theorem atM_app_last (E : List Mo) (x : Mo) : atM (E ++ [x]) E.length = x := by rw [atM_app, if_neg (Nat.lt_irrefl _), if_pos rfl]
set_option maxRecDepth 100000 in
set_option maxHeartbeats 1000000 in
theorem cqpop_any (cb mk : Nat) (now : Int) (v : Value) (E : List Mo) (x : Mo) (w : World) (h : CQ w cb mk now v (E ++ [x])) (hl : E.length ≤ 1000000) :
    Calls Try.prog 46 #[.pointer (some ⟨cb, 2, none⟩)] w fun e w' => e = .returned (.iface 59 (.pointer (some ⟨x.b, 0, none⟩))) ∧ ∃ v', CQ w' cb mk now v' E ∧ CX (fun k => k = cb ∨ v.ownBlock = some k) w w' ∧ v'.ownBlock = v.ownBlock := by
  obtain ⟨g, c, cur, rfl, hg, h1, h2, h3, h4, n1, n2⟩ := h.row (by rw [List.length_append]; exact Nat.succ_pos _)
  have el : (E ++ [x]).length = E.length + 1 := by rw [List.length_append]; rfl
  have p1 := tblk_cell hg (h4 E.length (by omega))
  rw [atM_app_last] at p1
  have z1 : w.frozen? ⟨g, E.length, none⟩ = false := by simp [World.frozen?, hg]
  have c2 := h.c2
  have z2 := h.z 2
  have FIN : Hid (CQ ((w.setCell ⟨g, E.length, none⟩ (.pointer none)).setCell ⟨cb, 2, none⟩ (.slice (some ⟨g, 0, none⟩) E.length c)) cb mk now (.slice (some ⟨g, 0, none⟩) E.length c) E ∧ CX (fun k => k = cb ∨ (Value.slice (some ⟨g, 0, none⟩) (E.length + 1) c).ownBlock = some k) w ((w.setCell ⟨g, E.length, none⟩ (.pointer none)).setCell ⟨cb, 2, none⟩ (.slice (some ⟨g, 0, none⟩) E.length c))) := by
    have o1 : ∀ k, k ≠ g → k ≠ cb → ((w.setCell ⟨g, E.length, none⟩ (.pointer none)).setCell ⟨cb, 2, none⟩ (.slice (some ⟨g, 0, none⟩) E.length c)).heap[k]? = w.heap[k]? := fun k a b => (blk_oth b).trans (blk_oth a)
    refine ⟨⟨blk_set ((blk_oth (fun e => n1 e.symm)).trans h.bk), .inr ⟨g, c, _, rfl, (blk_oth n1).trans (blk_set hg), by simp [h1], by omega, h3, fun j hj => ?_⟩, fun j hj => ?_, fun i j hi hj e => ?_⟩, ((CX.refl _ _).set (.inr rfl) _).set (.inl rfl) _⟩
    · rw [Array.getElem?_setIfInBounds, if_neg (by omega), h4 j (by omega), atM_app_lt _ _ hj]
    · have hm := h.mo j (by omega)
      have a := n2 j (by omega)
      have b := h.ncb j (by omega)
      rw [atM_app_lt _ _ hj] at hm a b
      exact (o1 _ a b).trans hm
    · refine h.nd i j (by omega) (by omega) ?_
      rw [atM_app_lt _ _ hi, atM_app_lt _ _ hj]
      exact e
  have f1 : IntKind.i64.wrap (((E.length + 1 : Nat) : Int) - 1) = (E.length : Int) := by rw [IntKind.wrap_i64]; omega
  rw [el] at c2 h2
  rw [el]
  clear h h1 h4 n2 hg el
  generalize E.length = n at *
  generalize x.b = xb at *
  obtain ⟨m, hm⟩ : ∃ m, m = n + 1 := ⟨_, rfl⟩
  rw [← hm] at FIN f1 c2 h2 ⊢
  have m1 : (0 : Int) ≤ n := by omega
  have m2 : (n : Int) < m := by omega
  have m3 : (n : Int) ≤ c := by omega
  have n3 : ¬ cb = g := fun e => n1 e.symm
  clear hm hl
  go_enter Try.func46, Try.ntmps46
  go_wp2
  go_ret
  exact ⟨rfl, _, FIN.out.1, FIN.out.2, rfl⟩
end Go.Proofs.Ytofnnphpogpcdaa
