/- Records one behind the other: a row of them that grows; what All answers (plain). -/
import Derived.Test.YtdibldocfhpnkaaDoorEnI
import Derived.Test.YtdibldocfhpnkaaDoorLyC
import Derived.Test.YtdibldocfhpnkaaDoorKpcA
import Derived.Maps.AppendAt
namespace Go.Proofs.YtdibldocfhpnkaaDoor
open Go.RowKit Go.Shelf
set_option linter.unusedVariables false

theorem below_putY {B : Nat} {w W : World} (h : Below B w W) (k : Nat) (o : Obj) (hk : B ≤ k) : Below B w (W.putObj k o) := ⟨h.os, h.tape, h.output, by rw [World.putObj_size]; exact h.size, fun j hj => (World.putObj_heap_other (by omega)).trans (h.block j hj)⟩
theorem put_cellsY {W : World} {j k : Nat} {o o' p : Obj} (hj : W.heap[j]? = some p) (hp : p.isCells = true) (h : W.heap[k]? = some o) (ho : o.isCells = false) : (W.putObj k o').heap[j]? = some p := by
  refine (World.putObj_heap_other ?_).trans hj
  intro e; subst e
  rw [h] at hj; cases hj; rw [ho] at hp; cases hp
theorem heap_alY {W : World} {k : Nat} {p : Obj} (o : Obj) (h : W.heap[k]? = some p) : (W.alloc o).heap[k]? = some p := (Below.heap_alloc W o k (Array.getElem?_eq_some_iff.1 h).1).trans h
theorem setOffY (W : World) (bc k : Nat) (v : Value) (hk : k ≠ bc) : (W.setCell ⟨bc, 0, none⟩ v).heap[k]? = W.heap[k]? := Below.heap_setCell W ⟨bc, 0, none⟩ v k hk
theorem appIn_runY {F : Fence} {n : Nat} {P : Program} {w : World} {ops : Array Oper} {rest : List Oper} {o : Oper} {a : Act} {Q : Exit → Act → World → Prop} (hgd : o.guard = none) (s x : Operand) (t : TypeId)
    (ho : o.op = .call { callee := .builtin .append, args := #[s, x], argTypes := #[t, t] }) (vs vx v' : Value) (w' : World) (hs : a.eval s = vs) (hx : a.eval x = vx) (hr : (Builtin.append_ #[t, t] o.type #[vs, vx]).run P w = .ok v' w')
    (h : wpListIn F n P ops Q rest (a.put o.dst v') w') : wpListIn F n P ops Q (o :: rest) a w := by
  refine wpListIn_plain hgd fun K hK => ?_
  unfold Oper.wpIn
  refine ⟨by simp [Oper.about, ho, resolve, Target.leads, Sem.run_pure], ?_⟩
  rw [Oper.semAt_plain F _ _ (by rw [ho]; intro c e; cases e)]
  simp [execOp, ho, resolve, invoke, builtin, hs, hx, hr, Result.andThen]
  exact hK _ _ h
theorem results_cells2Y {fn : Func} {t u : Tmp} {ty tz : TypeId} (h : fn.results = #[.cell t ty, .cell u tz]) (tmps : Array Value) (P : Program) (w : World) (a b : Addr) (x y : Value)
    (ha : tmps.getD t undef = .pointer (some a)) (hb : tmps.getD u undef = .pointer (some b)) (hx : (loadVar ty a).run P w = .ok x w) (hy : (loadVar tz b).run P w = .ok y w) :
    (results fn tmps).run P w = .ok (.tuple #[x, y]) w := by
  unfold results
  rw [h]
  rw [Array.getD_eq_getD_getElem?] at ha hb
  simp [ Sem.run_bind, ha, hb, asAddr, hx, hy, Result.andThen]
theorem blines_any (a : Option Addr) (n c : Nat) (w : World) : Calls Tryd.prog 32 #[.slice a n c] w fun e w' => e = .returned (.func (.func 46) #[] #[.pointer (some ⟨w.heap.size, 0, none⟩)]) ∧ w' = w.alloc (.cells #[.slice a n c] 25) := by
  go_enter Tryd.func32, Tryd.ntmps32
  go_wp2
  go_ret
  exact ⟨rfl, rfl⟩
/-- A row of records from block N on. -/
def rowE (es : List EntP) : List Value := es.flatMap fun e => (entV e).toList
theorem rowE_len (es : List EntP) : (rowE es).length = es.length * 9 := by
  induction es with
  | nil => rfl
  | cons e r ih =>
    have : rowE (e :: r) = (entV e).toList ++ rowE r := rfl
    rw [this, List.length_append, ih, List.length_cons, Nat.succ_mul]
    show 9 + _ = _
    omega
def OwnE (N : Nat) (w : World) (v : Value) (es : List EntP) : Prop := w.ownsRow N 23 9 v es.length (rowE es)
theorem OwnE.nil (N : Nat) (w : World) : OwnE N w (.slice none 0 0) [] := World.ownsRow_nil _ _ _ _
theorem OwnE.kept {N : Nat} {W V : World} {v : Value} {es : List EntP} (h : OwnE N W v es) (k : KpC N W V) : OwnE N V v es := by
  obtain ⟨h1, h2⟩ := h
  refine ⟨h1, ?_⟩
  rcases h2 with h2 | ⟨g, cap, cur, hv, hg, hh, r⟩
  · exact .inl h2
  · exact .inr ⟨g, cap, cur, hv, hg, k.same g _ hg hh rfl, r⟩
theorem OwnE.mono {N M : Nat} {w : World} {v : Value} {es : List EntP} (h : OwnE N w v es) (k : M ≤ N) : OwnE M w v es := owns_mono h k
theorem OwnE.form {N : Nat} {w : World} {v : Value} {es : List EntP} (h : OwnE N w v es) : ∃ a c, v = .slice a es.length c := by
  obtain ⟨_, ⟨hv, hn⟩ | ⟨g, c, cur, hv, _⟩⟩ := h
  · exact ⟨none, 0, by rw [hv, hn]⟩
  · exact ⟨_, c, hv⟩
theorem rowE_one (e : EntP) : ∀ v ∈ (entV e).toList, v.oneCell' = true := by
  intro v hv
  unfold entV at hv
  simp only [List.mem_cons, List.not_mem_nil, or_false] at hv
  rcases hv with rfl | rfl | rfl | rfl | rfl | rfl | rfl | rfl | rfl <;> rfl
theorem rowE_at (es : List EntP) (i : Nat) (hi : i < es.length) (j : Nat) (hj : j < 9) : (rowE es)[i * 9 + j]? = (entV es[i])[j]? := by
  induction es generalizing i with
  | nil => cases hi
  | cons e r ih =>
    have e0 : rowE (e :: r) = (entV e).toList ++ rowE r := rfl
    have e9 : (entV e).toList.length = 9 := rfl
    cases i with
    | zero => rw [e0, Nat.zero_mul, Nat.zero_add, List.getElem?_append_left (by omega)]; simp
    | succ i =>
      rw [e0, List.getElem?_append_right (by omega)]
      have : (i + 1) * 9 + j - (entV e).toList.length = i * 9 + j := by omega
      rw [this, ih i (by simpa using hi)]; rfl
/-- The number of one of them. -/
theorem OwnE.seq {N : Nat} {w : World} {v : Value} {es : List EntP} (h : OwnE N w v es) (i : Nat) (hi : i < es.length) : ∃ g c, v = .slice (some ⟨g, 0, none⟩) es.length c ∧ N ≤ g ∧ w.cell? ⟨g, i * 9, none⟩ = some (.int .i64 es[i].q) := by
  have h0 := h
  obtain ⟨h1, ⟨h2, h3⟩ | ⟨g, c, cur, hv, hB, hg, hl, hm, hs, ht⟩⟩ := h
  · omega
  · refine ⟨g, c, hv, hB, ring_cell hg ?_⟩
    have k : (cur.toList.take (es.length * 9))[i * 9]? = (rowE es)[i * 9]? := by rw [ht]
    rw [List.getElem?_take_of_lt (by omega)] at k
    have q := rowE_at es i hi 0 (by omega)
    rw [Nat.add_zero] at q
    rw [q] at k
    rw [← Array.getElem?_toList, k]; rfl
theorem infoE : (Tryd.prog.info? 23).map (fun i => (i.zero, i.size, i.bytes)) = some (some (.agg #[.int .i64 0, .int .i64 0, .int .i64 0, .int .i64 0, .string ⟨#[]⟩, .string ⟨#[]⟩, .int .i64 0, .int .i64 0, .int .i64 0]), 9, 88) := by kernel_rfl
theorem ownE_append {N : Nat} {w : World} {v : Value} {X : List EntP} (h : OwnE N w v X) (e : EntP) (ad : Addr) (hc : ∀ i u, (entV e)[i]? = some u → w.cell? (ad.add i) = some u) (hmax : X.length ≤ 1048576) (hN : N ≤ w.heap.size) :
    ∃ g' c' w', (Builtin.append_ #[36, 36] 36 #[v, .slice (some ad) 1 1]).run Tryd.prog w = .ok (.slice (some ⟨g', 0, none⟩) (X.length + 1) c') w' ∧ OwnE N w' (.slice (some ⟨g', 0, none⟩) (X.length + 1) c') (X ++ [e]) ∧ w.grownBy w' v.ownBlock ∧ N ≤ g' := by
  obtain ⟨i, hi, hz0, hz1, hz2⟩ := info_parts infoE
  obtain ⟨v', w', hr, q1, q2, q3, q4⟩ := run_append_own_at (P := Tryd.prog) w N 36 36 23 i _ 9 88 Tryd.underlying36 hi hz0 hz1 hz2 rfl (by decide) v X.length (rowE X) h ad 1 1 (entV e).toList rfl
    (fun j u hj => hc j u (by simpa using hj)) (rowE_one e) (by unfold maxLen; omega) (by omega) hN
  have e1 : rowE (X ++ [e]) = rowE X ++ (entV e).toList := by unfold rowE; rw [List.flatMap_append]; simp
  have q1' : w'.ownsRow N 23 9 v' (X.length + 1) (rowE (X ++ [e])) := by rw [e1]; exact q1
  obtain ⟨y1, ⟨y2, y3⟩ | ⟨g', c', cur', hv', hg', y4⟩⟩ := id q1'
  · omega
  · subst hv'
    refine ⟨g', c', w', hr, ?_, q2, hg'⟩
    unfold OwnE
    rw [List.length_append]; exact q1'
/-- What All reads of lines. -/
def okL (x : List UInt8) : Bool := okR ⟨x.toArray⟩
def valL (x : List UInt8) : EntP := valR ⟨x.toArray⟩
def linkB : List EntP → Bool
  | [] => true
  | [_] => true
  | a :: b :: r => decide (b.q = a.q + 1) && linkB (b :: r)
def goodB (xs : List (List UInt8)) : Bool := xs.all okL && linkB (xs.map valL)
def lastQ (es : List EntP) (e : EntP) : Bool := match es.getLast? with | none => true | some a => decide (e.q = a.q + 1)
theorem link_snoc : ∀ (es : List EntP) (e : EntP), linkB (es ++ [e]) = (linkB es && lastQ es e)
  | [], e => rfl
  | [a], e => by show (decide (e.q = a.q + 1) && true) = (true && decide (e.q = a.q + 1)); rw [Bool.and_true, Bool.true_and]
  | a :: b :: r, e => by
    have k := link_snoc (b :: r) e
    show (decide (b.q = a.q + 1) && linkB ((b :: r) ++ [e])) = _
    rw [k]
    have : lastQ (a :: b :: r) e = lastQ (b :: r) e := by unfold lastQ; rw [List.getLast?_cons_cons]
    rw [this]
    show _ = (decide (b.q = a.q + 1) && linkB (b :: r) && _)
    rw [Bool.and_assoc]
theorem good_snoc (xs : List (List UInt8)) (x : List UInt8) : goodB (xs ++ [x]) = (goodB xs && (okL x && lastQ (xs.map valL) (valL x))) := by
  unfold goodB
  rw [List.all_append, List.map_append, List.map_cons, List.map_nil, link_snoc, List.all_cons, List.all_nil, Bool.and_true]
  cases xs.all okL <;> cases okL x <;> cases linkB (xs.map valL) <;> rfl
theorem ok_right {x : List UInt8} (h : okL x = true) : rightE (valL x) = true := by
  unfold okL at h
  unfold valL valR
  rw [if_pos h]
  unfold okR at h
  simp only [Bool.and_eq_true] at h
  exact h.2.1
theorem lastq_bd {pre : List (List UInt8)} (h : goodB pre = true) (m : Nat) (hm : m < (pre.map valL).length) : 0 ≤ ((pre.map valL)[m]).q ∧ ((pre.map valL)[m]).q ≤ 1125899906842624 := by
  unfold goodB at h
  rw [Bool.and_eq_true, List.all_eq_true] at h
  rw [List.getElem_map]
  rw [List.length_map] at hm
  have k := right_bd (ok_right (h.1 pre[m] (List.getElem_mem hm)))
  exact k.1 _ (by unfold numsE; simp)
theorem OwnE.len9 {N : Nat} {w : World} {v : Value} {es : List EntP} (h : OwnE N w v es) : es.length ≤ 9223372036854775807 := by
  obtain ⟨_, ⟨_, hn⟩ | ⟨g, c, cur, hv, _, _, h1, h2, _⟩⟩ := h
  · omega
  · unfold maxLen at h2; omega
/-- What All answers. -/
def AllR (w : World) (b : List UInt8) (r : Ending) (w' : World) : Prop :=
  Below w.heap.size w w' ∧ ((goodB (linesL b) = true ∧ ∃ v, r = .returned (.tuple #[v, .int .i64 0]) ∧ OwnE w.heap.size w' v ((linesL b).map valL)) ∨
    (∃ pre x, pre ++ [x] <+: linesL b ∧ goodB pre = true ∧ goodB (pre ++ [x]) = false ∧ r = .returned (.tuple #[.slice none 0 0, .int .i64 (if okL x = true then 1 else 20)])))
end Go.Proofs.YtdibldocfhpnkaaDoor
