/- A row of routes that grows in memory of the walk's own. -/
import Derived.Test.YtjfcoihfjjcooaaRtD
import Derived.Test.YtjfcoihfjjcooaaRow
import Derived.Deep.Slices
namespace Go.Proofs.Ytjfcoihfjjcooaa
open Go.ChangeShapes Go.WideShapes Go.ChangeAt Go.RowKit
set_option linter.unusedVariables false

def rowR (rs : List RouteP) : List Value := rs.flatMap fun r => [.string r.p, .string r.u, .string r.s]
def OwnR (B : Nat) (w : World) (v : Value) (rs : List RouteP) : Prop := w.ownsRow B 26 3 v rs.length (rowR rs)
theorem rowR_len (rs : List RouteP) : (rowR rs).length = rs.length * 3 := by
  induction rs with
  | nil => rfl
  | cons f l ih =>
    show ([Value.string f.p, .string f.u, .string f.s] ++ rowR l).length = _
    have e : (f :: l).length = l.length + 1 := rfl
    have e2 : ([Value.string f.p, .string f.u, .string f.s] : List Value).length = 3 := rfl
    rw [List.length_append, ih, e, e2]; omega
theorem rowR_app (x y : List RouteP) : rowR (x ++ y) = rowR x ++ rowR y := by unfold rowR; rw [List.flatMap_append]
theorem rowR_at : ∀ (rs : List RouteP) (j : Nat) (hj : j < rs.length), (rowR rs)[j * 3]? = some (.string rs[j].p) ∧ (rowR rs)[j * 3 + 1]? = some (.string rs[j].u) ∧ (rowR rs)[j * 3 + 2]? = some (.string rs[j].s)
  | f :: l, 0, _ => ⟨rfl, rfl, rfl⟩
  | f :: l, j + 1, h => by
    have k := rowR_at l j (by simpa using h)
    have e1 : (j + 1) * 3 = j * 3 + 1 + 1 + 1 := by omega
    rw [e1]
    exact k
theorem rowR_one (rs : List RouteP) : ∀ v ∈ rowR rs, v.oneCell' = true := by
  intro v hv
  unfold rowR at hv
  obtain ⟨f, _, hf⟩ := List.mem_flatMap.1 hv
  simp at hf
  rcases hf with rfl | rfl | rfl <;> rfl
theorem OwnR.form {B : Nat} {w : World} {v : Value} {rs : List RouteP} (h : OwnR B w v rs) : ∃ a c, v = .slice a rs.length c ∧ (a = none → c = 0) := by
  obtain ⟨h1, ⟨h2, h3⟩ | ⟨g, c, cur, hv, _⟩⟩ := h
  · exact ⟨none, 0, by rw [h2, h3], fun _ => rfl⟩
  · exact ⟨_, c, hv, fun e => by cases e⟩
theorem OwnR.rts {B : Nat} {w : World} {v : Value} {rs : List RouteP} (h : OwnR B w v rs) : Rts w.heap.size w v rs := by
  have h0 := h
  obtain ⟨h1, ⟨h2, h3⟩ | ⟨g, c, cur, hv, hB, hg, hl, hm, hs, ht⟩⟩ := h
  · exact ⟨none, 0, by rw [h2, h3], fun _ => rfl, by omega, Nat.zero_le _, fun q => by omega⟩
  · refine ⟨_, c, hv, (fun e => by cases e), hl, hm, fun _ => ⟨g, 0, rfl, heap_lt hg, fun j hj => ?_⟩⟩
    have k := (hv ▸ h0 : w.ownsRow B 26 3 (.slice (some ⟨g, 0, none⟩) rs.length c) rs.length (rowR rs))
    have r := rowR_at rs j hj
    rw [Nat.zero_add]
    exact ⟨(k.cellAt (j * 3) (by omega)).trans r.1, (k.cellAt (j * 3 + 1) (by omega)).trans r.2.1, (k.cellAt (j * 3 + 2) (by omega)).trans r.2.2⟩
theorem OwnR.keep {B : Nat} {w w' : World} {v : Value} {rs : List RouteP} (h : OwnR B w v rs) (b : Below w.heap.size w w') : OwnR B w' v rs := owns_below h b
theorem OwnR.empty (B : Nat) (w : World) (hB : B ≤ w.heap.size) : OwnR B (w.alloc (.cells #[] 26)) (.slice (some ⟨w.heap.size, 0, none⟩) 0 0) [] :=
  ⟨rfl, .inr ⟨w.heap.size, 0, #[], rfl, hB, new_at _ _, Nat.le_refl _, by decide, rfl, rfl⟩⟩
theorem infoR : (Try.prog.info? 26).map (fun i => (i.zero, i.size, i.bytes)) = some (some (.agg #[.string ByteArray.empty, .string ByteArray.empty, .string ByteArray.empty]), 3, 48) := by kernel_rfl
theorem mod3 (j : Nat) : j % 3 = 0 ∨ j % 3 = 1 ∨ j % 3 = 2 := by omega
/-- Routes appended. -/
theorem ownR_append {B C : Nat} {w : World} {v : Value} {X Y : List RouteP} {a : Option Addr} {n c : Nat} (h : OwnR B w v X) (hs : Rts C w (.slice a n c) Y) (hmax : X.length + Y.length ≤ 4294967296) (hB : B ≤ w.heap.size) :
    ∃ v' w', (Builtin.append_ #[22, 22] 22 #[v, .slice a n c]).run Try.prog w = .ok v' w' ∧ OwnR B w' v' (X ++ Y) ∧ Below B w w' := by
  obtain ⟨i, hi, hz0, hz1, hz2⟩ := info_parts infoR
  obtain ⟨a', c', e, hnil, h1, h2, h3⟩ := hs
  obtain ⟨e1, e2, e3⟩ := slice_inj e
  subst e1 e2 e3
  have hmx : X.length + Y.length ≤ maxLen := by unfold maxLen; omega
  cases a with
  | none =>
    have hc := hnil rfl
    have hy : Y = [] := by
      rcases Nat.eq_zero_or_pos Y.length with q | q
      · exact List.eq_nil_of_length_eq_zero q
      · obtain ⟨_, _, q, _⟩ := h3 q; cases q
    subst hy hc
    exact ⟨v, w, run_append_owned_none w B 22 22 26 i 3 Try.underlying22 hi v _ _ h, by rw [List.append_nil]; exact h, Below.refl _ _⟩
  | some ad =>
    obtain ⟨v', w', hr, q1, q2, q3, q4⟩ := run_append_own_at (P := Try.prog) w B 22 22 26 i (.agg #[.string ByteArray.empty, .string ByteArray.empty, .string ByteArray.empty]) 3 48 Try.underlying22 hi hz0 hz1 hz2 rfl (by decide) v X.length (rowR X) h ad Y.length c (rowR Y) (rowR_len Y)
      (fun j u hj => by
        have hjl := (List.getElem?_eq_some_iff.1 hj).1
        rw [rowR_len] at hjl
        obtain ⟨k, off, ha, _, hc⟩ := h3 (by omega)
        have : ad = ⟨k, off, none⟩ := by simpa using ha
        subst this
        rw [addr_add]
        have r := rowR_at Y (j / 3) (by omega)
        have q := hc (j / 3) (by omega)
        rcases mod3 j with m | m | m
        · have e1 : j / 3 * 3 = j := by omega
          have q0 := q.1
          have r0 := r.1
          rw [e1] at r0 q0
          rw [q0, ← r0, hj]
        · have e1 : j / 3 * 3 + 1 = j := by omega
          have e2 : off + j / 3 * 3 + 1 = off + j := by omega
          have q0 := q.2.1
          have r0 := r.2.1
          rw [e1] at r0
          rw [e2] at q0
          rw [q0, ← r0, hj]
        · have e1 : j / 3 * 3 + 2 = j := by omega
          have e2 : off + j / 3 * 3 + 2 = off + j := by omega
          have q0 := q.2.2
          have r0 := r.2.2
          rw [e1] at r0
          rw [e2] at q0
          rw [q0, ← r0, hj]) (rowR_one _) hmx (by omega) hB
    refine ⟨v', w', hr, ?_, (Below.refl _ _).grown q2 hB (fun q hq => (h.lt q hq).1)⟩
    unfold OwnR
    rw [List.length_append, rowR_app]; exact q1
theorem rts_new (w : World) (r : RouteP) : Rts (w.alloc (.cells #[.string r.p, .string r.u, .string r.s] 26)).heap.size (w.alloc (.cells #[.string r.p, .string r.u, .string r.s] 26)) (.slice (some ⟨w.heap.size, 0, none⟩) 1 1) [r] := by
  have h : (w.alloc (.cells #[.string r.p, .string r.u, .string r.s] 26)).heap[w.heap.size]? = some (.cells #[.string r.p, .string r.u, .string r.s] 26) := new_at _ _
  refine ⟨_, 1, rfl, (fun e => by cases e), Nat.le_refl _, by decide, fun _ => ⟨w.heap.size, 0, rfl, heap_lt h, fun j hj => ?_⟩⟩
  have hj2 : j < 1 := hj
  obtain rfl : j = 0 := by omega
  exact ⟨tblk_cell h rfl, tblk_cell h rfl, tblk_cell h rfl⟩

/-- How many fit, and how long the longest is. -/
def CB (l : List RouteP) (t : ByteArray) (f b : Nat) : Prop :=
  (f = 0 ∧ b = 0 ∧ ∀ r ∈ l, fitT r.p t = false) ∨ (0 < f ∧ (∃ r ∈ l, fitT r.p t = true ∧ r.p.size = b) ∧ ∀ r ∈ l, fitT r.p t = true → r.p.size ≤ b)
theorem CB.nil (t : ByteArray) : CB [] t 0 0 := .inl ⟨rfl, rfl, fun r h => by cases h⟩
theorem CB.skip {l : List RouteP} {t : ByteArray} {f b : Nat} {r : RouteP} (h : CB l t f b) (hr : fitT r.p t = false) : CB (l ++ [r]) t f b := by
  rcases h with ⟨rfl, rfl, h⟩ | ⟨h0, ⟨x, hx, hf, hs⟩, h⟩
  · refine .inl ⟨rfl, rfl, fun y hy => ?_⟩
    rcases List.mem_append.1 hy with hy | hy
    · exact h y hy
    · rw [List.mem_singleton] at hy; rw [hy]; exact hr
  · refine .inr ⟨h0, ⟨x, List.mem_append_left _ hx, hf, hs⟩, fun y hy hfy => ?_⟩
    rcases List.mem_append.1 hy with hy | hy
    · exact h y hy hfy
    · rw [List.mem_singleton] at hy; rw [hy, hr] at hfy; cases hfy
theorem CB.more {l : List RouteP} {t : ByteArray} {f b : Nat} {r : RouteP} (h : CB l t f b) (hr : fitT r.p t = true) : CB (l ++ [r]) t (f + 1) (max b r.p.size) := by
  have hm : r ∈ l ++ [r] := List.mem_append_right _ (List.mem_singleton.2 rfl)
  rcases h with ⟨rfl, rfl, h⟩ | ⟨h0, ⟨x, hx, hf, hs⟩, h⟩
  · refine .inr ⟨by omega, ⟨r, hm, hr, by omega⟩, fun y hy hfy => ?_⟩
    rcases List.mem_append.1 hy with hy | hy
    · rw [h y hy] at hfy; cases hfy
    · rw [List.mem_singleton] at hy; rw [hy]; omega
  · refine .inr ⟨by omega, ?_, fun y hy hfy => ?_⟩
    · rcases Nat.le_total b r.p.size with c | c
      · exact ⟨r, hm, hr, by omega⟩
      · exact ⟨x, List.mem_append_left _ hx, hf, by omega⟩
    · rcases List.mem_append.1 hy with hy | hy
      · have := h y hy hfy; omega
      · rw [List.mem_singleton] at hy; rw [hy]; omega
theorem CB.rev {l : List RouteP} {t : ByteArray} {f b : Nat} (h : CB l t f b) : CB l.reverse t f b := by
  rcases h with ⟨h1, h2, h⟩ | ⟨h0, ⟨x, hx, hf, hs⟩, h⟩
  · exact .inl ⟨h1, h2, fun y hy => h y (List.mem_reverse.1 hy)⟩
  · exact .inr ⟨h0, ⟨x, List.mem_reverse.2 hx, hf, hs⟩, fun y hy => h y (List.mem_reverse.1 hy)⟩
theorem CB.none {l : List RouteP} {t : ByteArray} {b : Nat} {m : Int} (h : CB l t 0 b) (hb : Best l t l.length m) : m = -1 := by
  rcases hb with ⟨e, _⟩ | ⟨i, hi, e, _, hf, _⟩
  · exact e
  · rcases h with ⟨_, _, h⟩ | ⟨h0, _⟩
    · rw [h _ (List.getElem_mem hi)] at hf; cases hf
    · omega
theorem CB.some {l : List RouteP} {t : ByteArray} {f b : Nat} {m : Int} (h : CB l t f b) (h0 : 0 < f) (hb : Best l t l.length m) : ∃ (i : Nat) (hi : i < l.length), m = i ∧ fitT l[i].p t = true ∧ l[i].p.size = b := by
  rcases h with ⟨e, _⟩ | ⟨_, ⟨x, hx, hfx, hs⟩, h⟩
  · omega
  · obtain ⟨j, hj, rfl⟩ := List.mem_iff_getElem.1 hx
    rcases hb with ⟨_, h2⟩ | ⟨i, hi, e, _, hf, h2⟩
    · rw [h2 j hj hj] at hfx; cases hfx
    · have a := (h2 j hj hj hfx).1
      have c := h _ (List.getElem_mem hi) hf
      exact ⟨i, hi, e, hf, by omega⟩
theorem rev_take {l : List RouteP} {k : Nat} (hk : k < l.length) : l.reverse.take (k + 1) = l.reverse.take k ++ [l[l.length - 1 - k]'(by omega)] := by
  have h : k < l.reverse.length := by rw [List.length_reverse]; exact hk
  rw [List.take_succ_eq_append_getElem h, List.getElem_reverse]
theorem best_same {p q t : ByteArray} (hp : fitT p t = true) (hq : fitT q t = true) (h : p.size = q.size) : p = q := rt_eq (fitL_same hp hq h)
end Go.Proofs.Ytjfcoihfjjcooaa
