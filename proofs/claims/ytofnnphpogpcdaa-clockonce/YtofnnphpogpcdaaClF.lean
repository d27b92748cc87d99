/- Clock's queue: Push. -/
import Derived.Test.YtofnnphpogpcdaaClD
import Derived.Maps.AppendAt
import Derived.Laws.BitsAllLaws
namespace Go.Proofs.Ytofnnphpogpcdaa
open Go.RowKit
set_option linter.unusedVariables false

theorem wpList_append_run2 {P : Program} {w : World} {ops : Array Oper} {rest : List Oper} {o : Oper} {a : Act} {Q : Exit → Act → World → Prop} (hgd : o.guard = none) (s x : Operand) (t u : TypeId)
    (ho : o.op = .call { callee := .builtin .append, args := #[s, x], argTypes := #[t, u] }) (vs vx v' : Value) (w' : World) (hs : a.eval s = vs) (hx : a.eval x = vx) (hr : (Builtin.append_ #[t, u] o.type #[vs, vx]).run P w = .ok v' w')
    (h : wpList P ops Q rest (a.put o.dst v') w') : wpList P ops Q (o :: rest) a w := by
  refine wpList_plain hgd fun K hK => ?_
  unfold Oper.wp execOp
  simp only [ho, resolve, invoke, builtin, Sem.run_bind, Sem.run_pure, Result.andThen_ok, List.map_toArray, List.map_cons, List.map_nil, hs, hx, hr]
  exact hK _ _ h
theorem info_parts {P : Program} {t : TypeId} {z : Value} {s b : Nat} (h : (P.info? t).map (fun i => (i.zero, i.size, i.bytes)) = some (some z, s, b)) : ∃ i, P.info? t = some i ∧ i.zero = some z ∧ i.size = s ∧ i.bytes = b := by
  obtain ⟨i, hi, hz⟩ := Option.map_eq_some_iff.1 h
  injection hz with hz0 hz
  injection hz with hz1 hz2
  exact ⟨i, hi, hz0, hz1, hz2⟩
theorem infoPM : (Try.prog.info? 59).map (fun i => (i.zero, i.size, i.bytes)) = some (some (.pointer none), 1, 8) := by kernel_rfl
def ptrs (E : List Mo) : List Value := E.map fun x => .pointer (some ⟨x.b, 0, none⟩)
theorem ptrs_at (E : List Mo) (j : Nat) (hj : j < E.length) : (ptrs E)[j]? = some (.pointer (some ⟨(atM E j).b, 0, none⟩)) := by
  unfold ptrs
  rw [List.getElem?_map, atM_some hj]; rfl
theorem RQ.owns {w : World} {v : Value} {E : List Mo} (h : RQ w v E) : w.ownsRow 0 59 1 v E.length (ptrs E) := by
  refine ⟨by unfold ptrs; simp, ?_⟩
  rcases h with ⟨hv, e⟩ | ⟨g, c, cur, hv, hg, h1, h2, h3, h4⟩
  · exact .inl ⟨hv, by rw [e]; rfl⟩
  · refine .inr ⟨g, c, cur, hv, Nat.zero_le _, hg, h2, h3, by omega, ?_⟩
    refine List.ext_getElem? fun j => ?_
    by_cases hj : j < E.length
    · rw [ptrs_at E j hj, List.getElem?_take_of_lt (by omega), Array.getElem?_toList, h4 j hj]
    · rw [List.getElem?_eq_none (by rw [List.length_take]; omega), List.getElem?_eq_none (by unfold ptrs; rw [List.length_map]; omega)]
theorem RQ.of_owns {w : World} {v : Value} {E : List Mo} (h : w.ownsRow 0 59 1 v E.length (ptrs E)) : RQ w v E := by
  obtain ⟨h0, ⟨hv, e⟩ | ⟨g, c, cur, hv, _, hg, h2, h3, h4, h5⟩⟩ := h
  · exact .inl ⟨hv, List.length_eq_zero_iff.1 e⟩
  · refine .inr ⟨g, c, cur, hv, hg, by omega, h2, h3, fun j hj => ?_⟩
    rw [← ptrs_at E j hj, ← h5, List.getElem?_take_of_lt (by omega), Array.getElem?_toList]
/-- A pointer put behind. -/
theorem rq_append {w : World} {v : Value} {E : List Mo} (h : RQ w v E) (hl : E.length ≤ 1000000) (x : Mo) :
    ∃ v' w', (Builtin.append_ #[53, 53] 53 #[v, .slice (some ⟨w.heap.size, 0, none⟩) 1 1]).run Try.prog (w.alloc (.cells #[.pointer (some ⟨x.b, 0, none⟩)] 59)) = .ok v' w' ∧ RQ w' v' (E ++ [x]) ∧ (w.alloc (.cells #[.pointer (some ⟨x.b, 0, none⟩)] 59)).grownBy w' v.ownBlock ∧ (v'.ownBlock = v.ownBlock ∨ ∃ g, v'.ownBlock = some g ∧ w.heap.size ≤ g) := by
  obtain ⟨i, hi, hz0, hz1, hz2⟩ := info_parts infoPM
  have BA : Below w.heap.size w (w.alloc (.cells #[.pointer (some ⟨x.b, 0, none⟩)] 59)) := (Below.refl _ _).alloc (Nat.le_refl _) _
  have hA : RQ (w.alloc (.cells #[.pointer (some ⟨x.b, 0, none⟩)] 59)) v E := by
    rcases h with h | ⟨g, c, cur, hv, hg, r⟩
    · exact .inl h
    · exact .inr ⟨g, c, cur, hv, (BA.block g (Array.getElem?_eq_some_iff.1 hg).1).trans hg, r⟩
  obtain ⟨v', w', hr, q1, q2, q3, q4⟩ := run_append_own_at (P := Try.prog) _ 0 53 53 59 i (.pointer none) 1 8 Try.underlying53 hi hz0 hz1 hz2 rfl (by decide) v E.length (ptrs E) hA.owns ⟨w.heap.size, 0, none⟩ 1 1 [.pointer (some ⟨x.b, 0, none⟩)] rfl
    (fun j u hj => by
      have e : j = 0 := by have := (List.getElem?_eq_some_iff.1 hj).1; simp at this; omega
      subst e
      obtain rfl : Value.pointer (some ⟨x.b, 0, none⟩) = u := by simpa using hj
      show World.cell? _ _ = _
      rw [show (⟨w.heap.size, 0, none⟩ : Addr).add 0 = ⟨w.heap.size, 0, none⟩ from rfl]
      exact tblk_cell (tblk_new _ _) rfl) (fun u hu => by simp at hu; subst hu; rfl) (by unfold maxLen; omega) (by omega) (Nat.zero_le _)
  refine ⟨v', w', hr, RQ.of_owns ?_, q2, ?_⟩
  · have e : ptrs (E ++ [x]) = ptrs E ++ [.pointer (some ⟨x.b, 0, none⟩)] := by unfold ptrs; rw [List.map_append]; rfl
    rw [e, List.length_append]
    exact q1
  · rcases q4 with q | q
    · exact .inl q
    · exact .inr ⟨_, q, BA.size⟩
theorem ta_pm (p : Option Addr) (w : World) : (Instr.typeAssert (.iface 59 (.pointer p)) 20 59 false).run Try.prog w = .ok (.pointer p) w := by kernel_rfl
theorem size_new (W : World) (o : Obj) : (W.alloc o).heap.size = W.heap.size + 1 := by simp
theorem atM_app (E : List Mo) (x : Mo) (k : Nat) : atM (E ++ [x]) k = if k < E.length then atM E k else if k = E.length then x else ⟨0, 0, 0⟩ := by
  unfold atM
  simp only [List.getD_eq_getElem?_getD]
  by_cases a : k < E.length
  · rw [if_pos a, List.getElem?_append_left a]
  · rw [if_neg a, List.getElem?_append_right (by omega)]
    by_cases b : k = E.length
    · rw [if_pos b, b, Nat.sub_self]; rfl
    · rw [if_neg b, List.getElem?_eq_none (by simp; omega)]; rfl
theorem not_pm {w : World} {b : Nat} {cs cs' : Array Value} {t u : TypeId} (h : w.heap[b]? = some (.cells cs t)) (k : w.heap[b]? = some (.cells cs' u)) : t = u := by
  rw [h] at k
  injection k with k
  injection k with _ k _
theorem RQ.blk {w : World} {v : Value} {E : List Mo} (h : RQ w v E) {g : Nat} (hg : v.ownBlock = some g) : ∃ cur, w.heap[g]? = some (.cells cur 59) := by
  rcases h with ⟨hv, _⟩ | ⟨g', c, cur, hv, h1, _⟩
  · rw [hv] at hg; cases hg
  · rw [hv] at hg
    obtain rfl : g' = g := by simpa [Value.ownBlock] using hg
    exact ⟨cur, h1⟩
theorem RQ.move {w w' : World} {v : Value} {E : List Mo} (h : RQ w v E) (k : ∀ g, v.ownBlock = some g → w'.heap[g]? = w.heap[g]?) : RQ w' v E := by
  rcases h with h | ⟨g, c, cur, hv, h1, r⟩
  · exact .inl h
  · exact .inr ⟨g, c, cur, hv, (k g (by rw [hv]; rfl)).trans h1, r⟩
set_option maxRecDepth 100000 in
set_option maxHeartbeats 1000000 in
theorem cqpush_any (cb mk : Nat) (now pl : Int) (v : Value) (E : List Mo) (x : Mo) (w : World) (h : CQ w cb mk now v E) (hb : w.heap[x.b]? = some (.cells #[.int .i64 x.i, .int .i64 x.t, .int .i64 pl] 58)) (hx : ∀ y ∈ E, y.b ≠ x.b) (hl : E.length ≤ 1000000) :
    Calls Try.prog 47 #[.pointer (some ⟨cb, 2, none⟩), .iface 59 (.pointer (some ⟨x.b, 0, none⟩))] w fun e w' => e = .returned (.tuple #[]) ∧ ∃ v', CQ w' cb mk now v' (E ++ [x]) ∧ CX (fun k => k = cb ∨ k = x.b ∨ v.ownBlock = some k) w w' ∧ (v'.ownBlock = v.ownBlock ∨ ∃ g, v'.ownBlock = some g ∧ w.heap.size ≤ g) := by
  have nb : cb ≠ x.b := fun e => absurd (not_pm h.bk (e ▸ hb)) (by decide)
  have ng : ∀ g, v.ownBlock = some g → g ≠ x.b ∧ g ≠ cb := fun g hg => by
    obtain ⟨cur, hc⟩ := h.rq.blk hg
    exact ⟨fun e => absurd (not_pm hc (e ▸ hb)) (by decide), fun e => absurd (not_pm hc (e ▸ h.bk)) (by decide)⟩
  obtain ⟨w1, hw1⟩ : ∃ w1, w1 = w.setCell ⟨x.b, 2, none⟩ (.int .i64 (E.length : Int)) := ⟨_, rfl⟩
  have s1 : w1.heap.size = w.heap.size := by rw [hw1]; simp [World.setCell]
  have hb1 : w1.heap[x.b]? = some (.cells (moC x E.length) 58) := by rw [hw1]; exact blk_set hb
  have o1 : ∀ k, k ≠ x.b → w1.heap[k]? = w.heap[k]? := fun k hk => by rw [hw1]; exact blk_oth hk
  have rq1 : RQ w1 v E := h.rq.move fun g hg => o1 g (ng g hg).1
  obtain ⟨v', w3, hr, rq3, g3, ow⟩ := rq_append rq1 hl x
  obtain ⟨a', n', c', hv'⟩ : ∃ a' n' c', v' = .slice a' n' c' := by
    rcases rq3 with ⟨hv, e⟩ | ⟨g, c, cur, hv, _⟩
    · exact ⟨none, 0, 0, hv⟩
    · exact ⟨_, _, c, hv⟩
  subst hv'
  have lt1 := h.lt
  have bl3 : ∀ k, k < w.heap.size → v.ownBlock ≠ some k → w3.heap[k]? = w1.heap[k]? := fun k hk hn => (g3.block k (by rw [size_new]; omega) (fun e => hn e.symm)).trans (Below.heap_alloc _ _ _ (by omega))
  have bk3 : w3.heap[cb]? = some (.cells #[.int .i64 now, .map (some mk), v] 55) := (bl3 cb lt1 (fun e => (ng _ e).2 rfl)).trans ((o1 cb nb).trans h.bk)
  have FIN : Hid (CQ (w3.setCell ⟨cb, 2, none⟩ (.slice a' n' c')) cb mk now (.slice a' n' c') (E ++ [x]) ∧ CX (fun k => k = cb ∨ k = x.b ∨ v.ownBlock = some k) w (w3.setCell ⟨cb, 2, none⟩ (.slice a' n' c'))) := by
    have oc : ∀ k, k ≠ cb → (w3.setCell ⟨cb, 2, none⟩ (.slice a' n' c')).heap[k]? = w3.heap[k]? := fun k hk => blk_oth hk
    have mv : ∀ k, k < w.heap.size → k ≠ cb → k ≠ x.b → v.ownBlock ≠ some k → (w3.setCell ⟨cb, 2, none⟩ (.slice a' n' c')).heap[k]? = w.heap[k]? := fun k a b c d => (oc k b).trans ((bl3 k a d).trans (o1 k c))
    refine ⟨⟨blk_set bk3, rq3.move fun g hg => oc g (fun e => ?_), fun j hj => ?_, fun i j hi hj e => ?_⟩, ?_⟩
    · obtain ⟨cur, hc⟩ := rq3.blk hg
      rw [e] at hc
      exact absurd (not_pm hc bk3) (by decide)
    · rw [atM_app]
      rw [List.length_append] at hj
      simp at hj
      by_cases a : j < E.length
      · rw [if_pos a]
        have hm := h.mo j a
        refine (mv _ (Array.getElem?_eq_some_iff.1 hm).1 (h.ncb j a) (hx _ (atM_mem a)) (fun e => ?_)).trans hm
        obtain ⟨cur, hc⟩ := h.rq.blk e
        exact absurd (not_pm hc hm) (by decide)
      · obtain rfl : j = E.length := by omega
        rw [if_neg a, if_pos rfl]
        refine (oc _ (fun e => nb e.symm)).trans ((bl3 _ (Array.getElem?_eq_some_iff.1 hb).1 (fun e => (ng _ e).1 rfl)).trans hb1)
    · rw [List.length_append] at hi hj
      simp at hi hj
      rw [atM_app, atM_app] at e
      by_cases a : i < E.length
      · rw [if_pos a] at e
        by_cases b : j < E.length
        · rw [if_pos b] at e
          exact h.nd i j a b e
        · rw [if_neg b, if_pos (by omega)] at e
          exact absurd e (hx _ (atM_mem a))
      · rw [if_neg a, if_pos (by omega)] at e
        by_cases b : j < E.length
        · rw [if_pos b] at e
          exact absurd e.symm (hx _ (atM_mem b))
        · omega
    · refine ⟨by show w3.os = _; rw [g3.os, hw1]; rfl, by show w3.tape = _; rw [g3.tape, hw1]; rfl, by show w3.output = _; rw [g3.output, hw1]; rfl, ?_, fun k hk hn => mv k hk (fun e => hn (.inl e)) (fun e => hn (.inr (.inl e))) (fun e => hn (.inr (.inr e)))⟩
      have := g3.size
      simp only [World.setCell, Array.size_modify]
      simp at this
      omega
  have c2 := h.c2
  have p2 : w.cell? ⟨x.b, 2, none⟩ = some (.int .i64 pl) := tblk_cell hb rfl
  have pz : w.frozen? ⟨x.b, 2, none⟩ = false := by simp [World.frozen?, hb]
  have q2 : w1.cell? ⟨cb, 2, none⟩ = some v := (World.cell?_of_block (w := w) (a := ⟨cb, 2, none⟩) (o1 cb nb)).trans c2
  rw [hw1] at q2
  have q3 : w3.cell? ⟨cb, 2, none⟩ = some v := tblk_cell bk3 rfl
  have q4 : w3.frozen? ⟨cb, 2, none⟩ = false := by simp [World.frozen?, bk3]
  obtain ⟨a, c, hv⟩ : ∃ a c, v = .slice a E.length c := by
    rcases h.rq with ⟨hv, e⟩ | ⟨g, c, cur, hv, _⟩
    · exact ⟨none, 0, by rw [hv, e]; rfl⟩
    · exact ⟨_, c, hv⟩
  have OW : Hid ((Value.slice a' n' c').ownBlock = v.ownBlock ∨ ∃ g, (Value.slice a' n' c').ownBlock = some g ∧ w.heap.size ≤ g) := by rw [← s1]; exact ow
  rw [s1, hw1] at hr
  have hta := ta_pm (some ⟨x.b, 0, none⟩)
  subst hv
  clear h hb hx ng rq1 g3 bl3 bk3 rq3 o1 hb1 lt1 nb hl ow s1 hw1
  generalize E.length = n at *
  generalize hq : x.b = xb at *
  clear hq
  go_enter Try.func47, Try.ntmps47
  go_wp2_with (at_builtin; refine wpList_append_run2 rfl _ _ 53 53 rfl _ _ _ w3 rfl rfl hr ?_; clear hr)
  go_end0
  exact ⟨rfl, _, FIN.out.1, FIN.out.2, OW.out⟩
end Go.Proofs.Ytofnnphpogpcdaa
