/- Pool: a row of numbers beside a pool of one's own; the states of PoolReuses (plain). -/
import Derived.Test.YtglmflolcoiflaaPoM
namespace Go.Proofs.Ytglmflolcoiflaa
open Go.RowKit Go.Shelf
set_option linter.unusedVariables false

/-- A pool of one's own and a row of numbers beside it. -/
def PR (w : World) (pb mk n N : Nat) (most last : Int) (q : HF) (rs : List Int) (l : List Int) (vr : Value) (W : World) : Prop := ∃ g o, PI w [(g, o)] pb mk n N most last q rs W ∧ vr.ownBlock = some g ∧ w.heap.size ≤ g ∧ RO W vr l
/-- A call of the pool keeps the row. -/
theorem PR.call {w W W' : World} {g pb mk n N n' N' : Nat} {o : Obj} {most last last' : Int} {q q' : HF} {rs rs' l : List Int} {vr : Value} (s : PI w [(g, o)] pb mk n N most last q rs W) (h1 : vr.ownBlock = some g) (h2 : w.heap.size ≤ g) (h3 : RO W vr l) (s' : PI w [(g, o)] pb mk n' N' most last' q' rs' W') : PR w pb mk n' N' most last' q' rs' l vr W' :=
  ⟨g, o, s', h1, h2, h3.move fun k hk => by
    rw [h1] at hk
    cases hk
    rw [(s.fr _ (List.mem_singleton.2 rfl)).1]
    exact (s'.fr _ (List.mem_singleton.2 rfl)).1⟩
theorem ro_own {w : World} {v : Value} {rs : List Int} (h : RO w v rs) (hn : rs ≠ []) : ∃ g, v.ownBlock = some g := by
  rcases h with ⟨_, e⟩ | ⟨g, c, rfl, _⟩
  · exact absurd e hn
  · exact ⟨g, rfl⟩
/-- A number appended to the row beside the pool. -/
theorem PR.append {w W : World} {pb mk n N : Nat} {most last : Int} {q : HF} {rs l : List Int} {vr : Value} (s : PR w pb mk n N most last q rs l vr W) (x : Int) (hl : l.length ≤ 1000000) :
    ∃ v' W', (Builtin.append_ #[76, 76] 76 #[vr, .slice (some ⟨W.heap.size, 0, none⟩) 1 1]).run Try.prog (W.alloc (.cells #[.int .i64 x] 3)) = .ok v' W' ∧ PR w pb mk n N most last q rs (l ++ [x]) v' W' ∧ ∃ a c, v' = .slice a (l.length + 1) c := by
  obtain ⟨g, o, s, h1, h2, h3⟩ := s
  obtain ⟨v', W', e, R, sh, sz, eo, et, eu, bl, ow⟩ := ro_append h3 x hl
  obtain ⟨v, H, hv⟩ := s.pl
  obtain ⟨f1, f2, f3⟩ := s.fr _ (List.mem_singleton.2 rfl)
  have f4 := hv.2 _ (List.mem_singleton.2 rfl)
  have p1 := H.lt
  have p2 := H.hm.lt
  have p3 := s.be.size
  have keep : ∀ k, k < W.heap.size → k ≠ g → W'.heap[k]? = W.heap[k]? := fun k hk hne => bl k hk (by rw [h1]; intro e; cases e; exact hne rfl)
  obtain ⟨g', hg'⟩ := ro_own R (by simp)
  obtain ⟨cur, hc⟩ := R.blk g' hg'
  have hgg : g' = g ∨ W.heap.size ≤ g' := by
    rcases ow with e | ⟨k, e, hk⟩
    · rw [h1, hg'] at e
      cases e
      exact .inl rfl
    · rw [hg'] at e
      cases e
      exact .inr hk
  have H' : PL W' pb mk n N most last q rs v := ⟨(keep pb p1 (fun e => f2 e.symm)).trans H.bk, H.hm.move (keep mk p2 (fun e => f3 e.symm)), H.ro.move fun k hk => keep k (H.ro.lt k hk) (fun e => f4 (by rw [hk, e])), H.qs⟩
  refine ⟨v', W', e, ⟨g', .cells cur 3, ⟨⟨v, H', hv.1, fun p hp e => ?_⟩, fun p hp => ?_, s.qi, ⟨eo.trans s.be.os, et.trans s.be.tape, eu.trans s.be.output, Nat.le_trans p3 sz, fun k hk => (keep k (by omega) (by omega)).trans (s.be.block k hk)⟩, s.hp, s.hm⟩, hg', by omega, R⟩, sh⟩
  · rw [List.mem_singleton.1 hp] at e
    rcases hgg with rfl | hgg
    · exact f4 e
    · have := H.ro.lt _ e
      have : g' < W.heap.size := this
      omega
  · rw [List.mem_singleton.1 hp]
    refine ⟨hc, ?_, ?_⟩
    · rcases hgg with rfl | hgg
      · exact f2
      · show g' ≠ pb; omega
    · rcases hgg with rfl | hgg
      · exact f3
      · show g' ≠ mk; omega
def qa (i : Int) : HF := fun h => if 1 ≤ h ∧ h < i then some (lA, 2) else none
theorem qa_one : qa 1 = fun _ => none := funext fun h => if_neg (by omega)
theorem qa_step (i : Int) (hi : 1 ≤ i) : updI (updI (qa i) i (some (lA, 1))) i (some (lA, 2)) = qa (i + 1) := funext fun h => by
  by_cases c : h = i
  · subst c
    rw [updI_same]
    exact (if_pos ⟨hi, by omega⟩).symm
  · rw [updI_other _ _ c, updI_other _ _ c]
    unfold qa
    by_cases k : 1 ≤ h ∧ h < i
    · rw [if_pos k, if_pos ⟨k.1, by omega⟩]
    · rw [if_neg k, if_neg (by omega)]
def hr (a m : Int) (j : Nat) : Int := 1 + (a + j) % m
def hrs (a m : Int) (j : Nat) : List Int := (List.range j).map (hr a m)
theorem hr_in (a m : Int) (j : Nat) (hm : 0 < m) : 1 ≤ hr a m j ∧ hr a m j ≤ m := by
  have := Int.emod_nonneg (a + j) (b := m) (by omega)
  have := Int.emod_lt_of_pos (a + j) hm
  unfold hr
  omega
theorem hr_ne (a m : Int) (j k : Nat) (h1 : j < k) (h2 : (k : Int) < m) : hr a m j ≠ hr a m k := fun e => by
  unfold hr at e
  have e' : (a + j) % m = (a + k) % m := by omega
  have : ((a + k) - (a + j)) % m = 0 := by
    rw [Int.sub_emod, e', Int.sub_self, Int.zero_emod]
  have e2 : (a + k) - (a + j) = ((k - j : Nat) : Int) := by omega
  rw [e2, Int.emod_eq_of_lt (by omega) (by omega)] at this
  omega
theorem hr_new (a m : Int) (j : Nat) (h2 : (j : Int) < m) : hr a m j ∉ hrs a m j := fun h => by
  obtain ⟨k, hk, e⟩ := List.mem_map.1 h
  have := List.mem_range.1 hk
  exact hr_ne a m k j this h2 e
theorem hrs_succ (a m : Int) (j : Nat) : hrs a m (j + 1) = hrs a m j ++ [hr a m j] := by unfold hrs; rw [List.range_succ, List.map_append]; rfl
def qr (a m : Int) (j : Nat) : HF := fun h => if 1 ≤ h ∧ h < m + 1 then some (lA, if h ∈ hrs a m j then 3 else 2) else none
theorem qr_zero (a m : Int) : qr a m 0 = qa (m + 1) := by
  funext h
  unfold qr qa hrs
  simp
theorem qr_at (a m : Int) (j : Nat) (hm : 0 < m) (h2 : (j : Int) < m) : qr a m j (hr a m j) = some (lA, 2) := by
  have := hr_in a m j hm
  unfold qr
  rw [if_pos ⟨this.1, by omega⟩, if_neg (hr_new a m j h2)]
theorem qr_step (a m : Int) (j : Nat) (hm : 0 < m) : updI (qr a m j) (hr a m j) (some (lA, 3)) = qr a m (j + 1) := funext fun h => by
  have hi := hr_in a m j hm
  by_cases c : h = hr a m j
  · rw [c, updI_same]
    unfold qr
    rw [if_pos ⟨hi.1, by omega⟩, if_pos (by rw [hrs_succ]; simp)]
  · rw [updI_other _ _ c]
    unfold qr
    rw [hrs_succ]
    simp [c]
end Go.Proofs.Ytglmflolcoiflaa
