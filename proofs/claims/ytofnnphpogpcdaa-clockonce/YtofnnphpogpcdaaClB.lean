/- Clock's queue: Swap. -/
import Derived.Test.YtofnnphpogpcdaaClA
namespace Go.Proofs.Ytofnnphpogpcdaa
open Go.RowKit
set_option linter.unusedVariables false

def sgH (i j k : Nat) : Nat := if k = i then j else if k = j then i else k
theorem swH_sg (H : MoF) (i j k : Nat) : swH H i j k = H (sgH i j k) := by
  unfold swH sgH
  split
  · rfl
  · split <;> rfl
theorem sgH_inj {i j a b : Nat} (h : sgH i j a = sgH i j b) : a = b := by
  unfold sgH at h
  split at h <;> split at h <;> (try split at h) <;> (try split at h) <;> omega
theorem sgH_lt {i j a n : Nat} (hi : i < n) (hj : j < n) (ha : a < n) : sgH i j a < n := by
  unfold sgH
  split
  · exact hj
  · split
    · exact hi
    · exact ha
theorem CQ.swap {w w2 : World} {cb mk : Nat} {now : Int} {E : List Mo} {g c : Nat} {cur cur2 : Array Value} {i j : Nat} (h : CQ w cb mk now (.slice (some ⟨g, 0, none⟩) E.length c) E) (hi : i < E.length) (hj : j < E.length) (h0 : w.heap[g]? = some (.cells cur 59)) (h1 : w2.heap[g]? = some (.cells cur2 59)) (h2 : cur2.size = c) (h3 : E.length ≤ c) (h4 : c ≤ maxLen)
    (h5 : ∀ k, k < E.length → cur2[k]? = some (.pointer (some ⟨(atM E (sgH i j k)).b, 0, none⟩))) (h6 : w2.heap[(atM E i).b]? = some (.cells (moC (atM E i) j) 58)) (h7 : w2.heap[(atM E j).b]? = some (.cells (moC (atM E j) i) 58)) (h8 : ∀ k, k ≠ g → k ≠ (atM E i).b → k ≠ (atM E j).b → w2.heap[k]? = w.heap[k]?) : CQ w2 cb mk now (.slice (some ⟨g, 0, none⟩) E.length c) (swL E i j) := by
  obtain ⟨g', c', cur', hv, hg, k1, k2, k3, k4, n1, n2⟩ := h.row (by omega)
  injection hv with e1 e2 e3
  injection e1 with e1
  injection e1 with e1
  subst e1
  refine ⟨(h8 cb (fun e => n1 e.symm) (fun e => h.ncb i hi e.symm) (fun e => h.ncb j hj e.symm)).trans h.bk, .inr ⟨g, c, cur2, by rw [swL_len], h1, h2, by rw [swL_len]; exact h3, h4, fun k hk => ?_⟩, fun k hk => ?_, fun a b ha hb e => ?_⟩
  · rw [swL_len] at hk
    rw [atM_sw _ _ _ hi hj, swH_sg]
    exact h5 k hk
  · rw [swL_len] at hk
    rw [atM_sw _ _ _ hi hj]
    by_cases a : k = i
    · subst a; rw [swH_a]; exact h7
    · by_cases b : k = j
      · subst b; rw [swH_b _ _ _ a]; exact h6
      · rw [swH_o _ _ _ _ a b, h8 _ (n2 k hk) (fun e => a (h.nd _ _ hk hi e)) (fun e => b (h.nd _ _ hk hj e))]
        exact h.mo k hk
  · rw [swL_len] at ha hb
    rw [atM_sw _ _ _ hi hj, swH_sg, swH_sg] at e
    exact sgH_inj (h.nd _ _ (sgH_lt hi hj ha) (sgH_lt hi hj hb) e)
theorem cur_sw {cur : Array Value} {n i j : Nat} {f : Nat → Value} (h : ∀ k, k < n → cur[k]? = some (f k)) (hi : i < n) (hj : j < n) (hs : n ≤ cur.size) : ∀ k, k < n → ((cur.setIfInBounds i (f j)).setIfInBounds j (f i))[k]? = some (f (sgH i j k)) := by
  intro k hk
  unfold sgH
  rw [Array.getElem?_setIfInBounds, Array.getElem?_setIfInBounds]
  by_cases a : j = k
  · subst a
    rw [if_pos rfl, if_pos (by simp; omega)]
    by_cases b : j = i
    · subst b; rw [if_pos rfl]
    · rw [if_neg b, if_pos rfl]
  · rw [if_neg a]
    by_cases b : i = k
    · subst b
      rw [if_pos rfl, if_pos (by omega), if_pos rfl]
    · rw [if_neg b, if_neg (fun e => b e.symm), if_neg (fun e => a e.symm)]
      exact h k hk
theorem mo_set (x : Mo) (i j : Nat) : (moC x i).setIfInBounds 2 (.int .i64 (j : Int)) = moC x j := rfl
/-- The world behind the row's two stores. -/
def swW (w : World) (g i j bi bj : Nat) : World := (w.setCell ⟨g, i, none⟩ (.pointer (some ⟨bj, 0, none⟩))).setCell ⟨g, j, none⟩ (.pointer (some ⟨bi, 0, none⟩))
theorem swap_mid {w : World} {cb mk : Nat} {now : Int} {E : List Mo} {g c : Nat} {i j : Nat} (h : CQ w cb mk now (.slice (some ⟨g, 0, none⟩) E.length c) E) (hi : i < E.length) (hj : j < E.length) (w1 : World) (hw : w1.heap = (swW w g i j (atM E i).b (atM E j).b).heap) :
    (∃ cur2, w1.heap[g]? = some (.cells cur2 59) ∧ cur2.size = c ∧ ∀ k, k < E.length → cur2[k]? = some (.pointer (some ⟨(atM E (sgH i j k)).b, 0, none⟩))) ∧ (∀ k, k ≠ g → w1.heap[k]? = w.heap[k]?) ∧
    w1.cell? ⟨g, i, none⟩ = some (.pointer (some ⟨(atM E j).b, 0, none⟩)) ∧ w1.cell? ⟨g, j, none⟩ = some (.pointer (some ⟨(atM E i).b, 0, none⟩)) ∧ w1.cell? ⟨(atM E i).b, 2, none⟩ = some (.int .i64 (i : Int)) ∧ w1.cell? ⟨(atM E j).b, 2, none⟩ = some (.int .i64 (j : Int)) ∧ w1.frozen? ⟨(atM E i).b, 2, none⟩ = false ∧ w1.frozen? ⟨(atM E j).b, 2, none⟩ = false := by
  obtain ⟨g', c', cur, hv, hg, h1, h2, h3, h4, n1, n2⟩ := h.row (by omega)
  injection hv with q1 q2 q3
  injection q1 with q1
  injection q1 with q1
  subst q1
  subst q3
  have F1 : w1.heap[g]? = some (.cells ((cur.setIfInBounds i (.pointer (some ⟨(atM E j).b, 0, none⟩))).setIfInBounds j (.pointer (some ⟨(atM E i).b, 0, none⟩))) 59) := by rw [hw]; exact blk_set (blk_set hg)
  have F2 : ∀ k, k ≠ g → w1.heap[k]? = w.heap[k]? := fun k hk => by rw [hw]; exact (blk_oth (w := w.setCell ⟨g, i, none⟩ _) hk).trans (blk_oth hk)
  have F3 := cur_sw (f := fun k => .pointer (some ⟨(atM E k).b, 0, none⟩)) h4 hi hj (by omega)
  have bi := (F2 _ (n2 i hi)).trans (h.mo i hi)
  have bj := (F2 _ (n2 j hj)).trans (h.mo j hj)
  have si : sgH i j i = j := if_pos rfl
  have sj : sgH i j j = i := by
    unfold sgH
    split
    · rename_i e; exact e
    · exact if_pos rfl
  have ci := F3 i hi
  have cj := F3 j hj
  rw [si] at ci
  rw [sj] at cj
  refine ⟨⟨_, F1, by simp [h1], F3⟩, F2, tblk_cell F1 ci, tblk_cell F1 cj, tblk_cell bi rfl, tblk_cell bj rfl, by simp [World.frozen?, bi], by simp [World.frozen?, bj]⟩
theorem swap_end {w : World} {cb mk : Nat} {now : Int} {E : List Mo} {g c : Nat} {i j : Nat} (h : CQ w cb mk now (.slice (some ⟨g, 0, none⟩) E.length c) E) (hi : i < E.length) (hj : j < E.length) (w1 w2 : World) (hw : w1.heap = (swW w g i j (atM E i).b (atM E j).b).heap) (hw2 : w2.heap = ((w1.setCell ⟨(atM E j).b, 2, none⟩ (.int .i64 (i : Int))).setCell ⟨(atM E i).b, 2, none⟩ (.int .i64 (j : Int))).heap) (ho : w2.os = w.os ∧ w2.tape = w.tape ∧ w2.output = w.output) :
    CQ w2 cb mk now (.slice (some ⟨g, 0, none⟩) E.length c) (swL E i j) ∧ CX (OwnQ (.slice (some ⟨g, 0, none⟩) E.length c) E) w w2 := by
  obtain ⟨⟨cur2, k1, k2, k3⟩, k4, _⟩ := swap_mid h hi hj w1 hw
  obtain ⟨g', c', cur, hv, hg, h1, h2, h3, h4, n1, n2⟩ := h.row (by omega)
  injection hv with q1 q2 q3
  injection q1 with q1
  injection q1 with q1
  subst q1
  subst q3
  have bi := (k4 _ (n2 i hi)).trans (h.mo i hi)
  have bj := (k4 _ (n2 j hj)).trans (h.mo j hj)
  have oth : ∀ k, k ≠ (atM E i).b → k ≠ (atM E j).b → w2.heap[k]? = w1.heap[k]? := fun k a b => by rw [hw2]; exact (blk_oth (w := w1.setCell _ _) a).trans (blk_oth b)
  have h6 : w2.heap[(atM E i).b]? = some (.cells (moC (atM E i) j) 58) := by
    rw [hw2]
    by_cases e : (atM E i).b = (atM E j).b
    · obtain rfl := h.nd i j hi hj e
      exact blk_set (blk_set bi)
    · exact blk_set ((blk_oth e).trans bi)
  have h7 : w2.heap[(atM E j).b]? = some (.cells (moC (atM E j) i) 58) := by
    by_cases e : (atM E i).b = (atM E j).b
    · obtain rfl := h.nd i j hi hj e
      exact h6
    · rw [hw2]
      exact (blk_oth (fun q => e q.symm)).trans (blk_set bj)
  have sz : w2.heap.size = w.heap.size := by rw [hw2]; simp only [World.setCell, Array.size_modify]; rw [hw]; simp only [swW, World.setCell, Array.size_modify]
  refine ⟨h.swap hi hj hg ((oth g (fun e => n2 i hi e.symm) (fun e => n2 j hj e.symm)).trans k1) k2 h2 h3 k3 h6 h7 (fun k a b d => (oth k b d).trans (k4 k a)), ho.1, ho.2.1, ho.2.2, by omega, fun k hk hn => ?_⟩
  have a : k ≠ g := fun e => hn (.inl (by rw [e]; rfl))
  exact (oth k (fun e => hn (.inr ⟨_, atM_mem hi, e.symm⟩)) (fun e => hn (.inr ⟨_, atM_mem hj, e.symm⟩))).trans (k4 k a)
set_option maxRecDepth 100000 in
set_option maxHeartbeats 1000000 in
theorem cqswap_any (cb mk : Nat) (now : Int) (v : Value) (E : List Mo) (i j : Nat) (hi : i < E.length) (hj : j < E.length) (w : World) (h : CQ w cb mk now v E) : Calls Try.prog 45 #[v, .int .i64 i, .int .i64 j] w fun e w' => e = .returned (.tuple #[]) ∧ CQ w' cb mk now v (swL E i j) ∧ CX (OwnQ v E) w w' := by
  obtain ⟨g, c, cur, rfl, hg, h1, h2, h3, h4, n1, n2⟩ := h.row (by omega)
  have p1 := tblk_cell hg (h4 i hi)
  have p2 := tblk_cell hg (h4 j hj)
  have zi : w.frozen? ⟨g, i, none⟩ = false := by simp [World.frozen?, hg]
  have zj : w.frozen? ⟨g, j, none⟩ = false := by simp [World.frozen?, hg]
  have m1 : (0 : Int) ≤ i := by omega
  have m2 : (i : Int) < E.length := by omega
  have m3 : (0 : Int) ≤ j := by omega
  have m4 : (j : Int) < E.length := by omega
  have HM : Hid (∀ w1 : World, w1.heap = (swW w g i j (atM E i).b (atM E j).b).heap → w1.cell? ⟨g, i, none⟩ = some (.pointer (some ⟨(atM E j).b, 0, none⟩)) ∧ w1.cell? ⟨g, j, none⟩ = some (.pointer (some ⟨(atM E i).b, 0, none⟩)) ∧ w1.cell? ⟨(atM E i).b, 2, none⟩ = some (.int .i64 (i : Int)) ∧ w1.cell? ⟨(atM E j).b, 2, none⟩ = some (.int .i64 (j : Int)) ∧ w1.frozen? ⟨(atM E i).b, 2, none⟩ = false ∧ w1.frozen? ⟨(atM E j).b, 2, none⟩ = false) := fun w1 hw => (swap_mid h hi hj w1 hw).2.2
  have HE := hidE (fun w1 w2 => swap_end h hi hj w1 w2)
  have HD : Hid ((atM E i).b = (atM E j).b → i = j) := fun e => h.nd i j hi hj e
  generalize E.length = n at *
  generalize (atM E i).b = bi at *
  generalize (atM E j).b = bj at *
  clear h h1 h2 h3 h4 hg n1 n2 hi hj
  by_cases hij : i = j
  · subst hij
    obtain rfl : bj = bi := by
      rw [p1] at p2
      injection p2 with e
      injection e with e
      injection e with e
      injection e with e
      exact e.symm
    go_enter Try.func45, Try.ntmps45
    go_wp2_with fail
    go_region
    obtain ⟨w1, hw1⟩ : ∃ w1, w1 = ((w.setCell { block := g, off := i } (Value.pointer (some { block := bj, off := 0 }))).setCell { block := g, off := i } (Value.pointer (some { block := bj, off := 0 }))).drew := ⟨_, rfl⟩
    rw [← hw1]
    obtain ⟨c1, c2, c3, c4, c5, c6⟩ := HM.out w1 (by rw [hw1]; rfl)
    have HF := hidE (fun w2 => HE.out w1 w2 (by rw [hw1]; rfl))
    have HO : Hid (w1.os = w.os ∧ w1.tape = w.tape ∧ w1.output = w.output) := by rw [hw1]; exact ⟨rfl, rfl, rfl⟩
    clear hw1 HM HE p1 p2 zi zj
    go_wp2_with fail
    go_region
    go_end0
    exact ⟨rfl, HF.out _ rfl HO.out⟩
  · have e1 : ¬ j = i := fun e => hij e.symm
    have e2 : ¬ bi = bj := fun e => hij (HD.out e)
    have e3 : ¬ bj = bi := fun e => hij (HD.out e.symm)
    go_enter Try.func45, Try.ntmps45
    go_wp2_with fail
    go_region
    obtain ⟨w1, hw1⟩ : ∃ w1, w1 = ((w.setCell { block := g, off := i } (Value.pointer (some { block := bj, off := 0 }))).setCell { block := g, off := j } (Value.pointer (some { block := bi, off := 0 }))).drew := ⟨_, rfl⟩
    rw [← hw1]
    obtain ⟨c1, c2, c3, c4, c5, c6⟩ := HM.out w1 (by rw [hw1]; rfl)
    have HF := hidE (fun w2 => HE.out w1 w2 (by rw [hw1]; rfl))
    have HO : Hid (w1.os = w.os ∧ w1.tape = w.tape ∧ w1.output = w.output) := by rw [hw1]; exact ⟨rfl, rfl, rfl⟩
    clear hw1 HM HE p1 p2 zi zj
    go_wp2_with fail
    go_region
    all_goals
      go_end0
      exact ⟨rfl, HF.out _ rfl HO.out⟩
end Go.Proofs.Ytofnnphpogpcdaa
