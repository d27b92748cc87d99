/- New, Credit; the document's example. -/
import Derived.Test.YtnfpbkllpkbdiaaRbM
namespace Go.Proofs.Ytnfpbkllpkbdiaa
open Go.RowKit
set_option linter.unusedVariables false

theorem head_distinct {fs : List Fl} (h : fs.Pairwise (fun a b => a.1 ≠ b.1)) (f : Fl) : (fs.filter (fun x => x.1 == f.1)).head? = some f ↔ f ∈ fs := by
  induction fs with
  | nil => simp
  | cons x t ih =>
    obtain ⟨h1, h2⟩ := List.pairwise_cons.1 h
    by_cases c : x.1 = f.1
    · rw [List.filter_cons, if_pos (by simpa using c), List.head?_cons]
      constructor
      · intro e; injection e with e; rw [e]; exact List.mem_cons_self ..
      · intro e
        rcases List.mem_cons.1 e with e | e
        · rw [e]
        · exact absurd c (h1 f e)
    · rw [List.filter_cons, if_neg (by simpa using c), ih h2]
      constructor
      · exact fun e => List.mem_cons_of_mem _ e
      · intro e
        rcases List.mem_cons.1 e with e | e
        · exact absurd (by rw [e]) c
        · exact e
theorem wait_dist {la : Int} {fs W X : List Fl} (h : WaitP la fs W) (hf : ∀ f ∈ fs, InR f.1) (hd : fs.Pairwise (fun a b => a.1 ≠ b.1)) (hX : X.Pairwise (Klt la)) (hm : ∀ f, f ∈ X ↔ 0 < f.2 ∧ f ∈ fs) : W = X :=
  wait_uniq h hf hX fun f => (hm f).trans (and_congr_right fun _ => (head_distinct hd f).symm)
theorem wait_none {la : Int} {fs W : List Fl} (h : WaitP la fs W) (hf : ∀ f ∈ fs, f.2 ≤ 0) : W = [] := by
  obtain ⟨s, h1, _, rfl⟩ := h
  rw [List.filter_eq_nil_iff]
  intro f hm
  have := hf f ((h1.mem f).1 (cpt_mem s _ (Nat.le_refl _) f hm))
  unfold wants
  simp [this]
theorem fls_blk {w : World} {g n : Nat} {l : List Fl} {row : Array Value} (h : w.heap[g]? = some (.cells row 31)) (hl : l.length = n) (hr : (rowW l).toArray = row) (hn : n ≤ maxLen) : Fls w (some ⟨g, 0, none⟩) n l := by
  subst hr hl
  refine ⟨(fun e => by cases e), Nat.le_refl _, hn, fun _ => ⟨g, 0, rfl, (Array.getElem?_eq_some_iff.1 h).1, fun j hj => ?_⟩⟩
  have r := rowW_at l j hj
  rw [Nat.zero_add]
  exact ⟨tblk_cell h (by rw [List.getElem?_toArray]; exact r.1), tblk_cell h (by rw [List.getElem?_toArray]; exact r.2)⟩
theorem Ex.below {b B : Nat} {u v : World} (h : Ex b u v) (hb : B ≤ b) (hB : B ≤ u.heap.size) : Below B u v :=
  ⟨h.os, h.tape, h.output, h.size, fun k hk => h.block k (by omega) (by omega)⟩
def qB (n : Int) : Int := min (max n 1) 1048576
theorem qB_bd (n : Int) : 1 ≤ qB n ∧ qB n ≤ 1048576 := by unfold qB; omega
set_option maxHeartbeats 400000 in
theorem rbnew_any (n : Int) (w : World) : Calls Try.prog 4 #[.int .i64 n] w fun e w' => e = .returned (.pointer (some ⟨w.heap.size, 0, none⟩)) ∧ IsR w' w.heap.size (qB n) 0 9223372036854775807 ∧ w'.heap.size = w.heap.size + 1 ∧ Below w.heap.size w w' := by
  obtain ⟨m0, hm0⟩ : ∃ m0, max n 1 = m0 := ⟨_, rfl⟩
  obtain ⟨r, hr⟩ : ∃ r, min m0 1048576 = r := ⟨_, rfl⟩
  have X0 := max_run n 1 m0 hm0
  have X1 := min_run m0 1048576 r hr
  have hq : qB n = r := by unfold qB; rw [hm0, hr]
  rw [hq]
  clear hm0 hr hq
  go_enter Try.func4, Try.ntmps4
  go_wp2
  go_ret
  exact ⟨rfl, tblk_new _ _, by simp, (Below.refl _ _).alloc (Nat.le_refl _) _⟩
set_option maxHeartbeats 400000 in
theorem rbcredit_any (rb : Nat) (q cr la : Int) (w : World) (h : IsR w rb q cr la) : Calls Try.prog 8 #[.pointer (some ⟨rb, 0, none⟩)] w fun e w' => e = .returned (.int .i64 cr) ∧ w' = w := by
  have r1 := h.c1
  clear h
  go_enter Try.func8, Try.ntmps8
  go_wp2
  go_ret
  exact ⟨rfl, rfl⟩
/-- The grants' cells. -/
theorem GO.at {B : Nat} {w : World} {v : Value} {gs : List Fl} (h : GO B w v gs) (hl : 0 < gs.length) : ∃ g c, v = .slice (some ⟨g, 0, none⟩) gs.length c ∧ B ≤ g ∧ g < w.heap.size ∧ ∀ j, j < gs.length → w.cell? ⟨g, j * 2, none⟩ = some (.int .i64 (gs.getD j (0, 0)).1) ∧ w.cell? ⟨g, j * 2 + 1, none⟩ = some (.int .i64 (gs.getD j (0, 0)).2) := by
  obtain ⟨h1, ⟨h2, h3⟩ | ⟨g, c, cur, hv, hB, hg, hlc, hm, hs, ht⟩⟩ := h
  · omega
  · refine ⟨g, c, hv, hB, (Array.getElem?_eq_some_iff.1 hg).1, fun j hj => ?_⟩
    have r := rowW_at gs j hj
    have e : ∀ i, i < gs.length * 2 → cur[i]? = (rowW gs)[i]? := fun i hi => by
      rw [← ht, List.getElem?_take_of_lt hi, Array.getElem?_toList]
    exact ⟨tblk_cell hg (by rw [e _ (by omega)]; exact r.1), tblk_cell hg (by rw [e _ (by omega)]; exact r.2)⟩
theorem ex1_wait {W : List Fl} (h : WaitP 9223372036854775807 [(1, 100), (2, 100)] W) : W = [(1, 100), (2, 100)] := by
  refine wait_dist h (by unfold InR; decide) (by decide) (by unfold Klt; decide) fun f => ?_
  constructor
  · intro q
    refine ⟨?_, q⟩
    rcases List.mem_cons.1 q with r | r
    · rw [r]; decide
    · rcases List.mem_cons.1 r with r | r
      · rw [r]; decide
      · cases r
  · exact fun q => q.2
theorem ex2_wait {W : List Fl} (h : WaitP 1 [(1, 36), (2, 100)] W) : W = [(2, 100), (1, 36)] := by
  refine wait_dist h (by unfold InR; decide) (by decide) (by unfold Klt; decide) fun f => ?_
  simp only [List.mem_cons, List.not_mem_nil, or_false]
  constructor
  · rintro (r | r)
    · exact ⟨by rw [r]; decide, .inr r⟩
    · exact ⟨by rw [r]; decide, .inl r⟩
  · rintro ⟨_, r | r⟩
    · exact .inr r
    · exact .inl r
theorem ex1_loop : loopQ [(1, 100), (2, 100)] (0 + 100) 9223372036854775807 [] = (36, 1, [(1, 64)]) := by
  rw [loopQ_go (by decide) (by decide)]
  rw [show nxt ((1, 100) : Fl) [(2, 100)] = [(2, 100), (1, 36)] by decide]
  rw [loopQ_stop (by decide) (by decide)]
  rfl
theorem ex2_loop : loopQ [(2, 100), (1, 36)] (36 + 100) 1 [] = (0, 2, [(2, 64), (1, 36), (2, 36)]) := by
  rw [loopQ_go (by decide) (by decide), show nxt ((2, 100) : Fl) [(1, 36)] = [(1, 36), (2, 36)] by decide]
  rw [loopQ_go (by decide) (by decide), show nxt ((1, 36) : Fl) [(2, 36)] = [(2, 36)] by decide]
  rw [loopQ_go (by decide) (by decide), show nxt ((2, 36) : Fl) [] = [] by decide]
  rw [loopQ_nil]
  rfl
end Go.Proofs.Ytnfpbkllpkbdiaa
