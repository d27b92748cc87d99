/- slices.Clone of flows; whose turn it is (inTurn). -/
import Derived.Test.YtnfpbkllpkbdiaaRbG
import Derived.Maps.AppendAt
import Derived.Lib.SliceRun
namespace Go.Proofs.Ytnfpbkllpkbdiaa
open Go.RowKit
set_option linter.unusedVariables false

theorem addr_add (b o i : Nat) : (⟨b, o, none⟩ : Addr).add i = ⟨b, o + i, none⟩ := by unfold Addr.add; split <;> simp_all
/-- Flows that are only read. -/
def Fls (w : World) (a : Option Addr) (c : Nat) (fs : List Fl) : Prop := (a = none → c = 0) ∧ fs.length ≤ c ∧ c ≤ maxLen ∧ (0 < fs.length → ∃ g off, a = some ⟨g, off, none⟩ ∧ g < w.heap.size ∧ ∀ j, j < fs.length → w.cell? ⟨g, off + j * 2, none⟩ = some (.int .i64 (fs.getD j (0, 0)).1) ∧ w.cell? ⟨g, off + j * 2 + 1, none⟩ = some (.int .i64 (fs.getD j (0, 0)).2))
theorem Fls.keep {w w' : World} {a : Option Addr} {c : Nat} {fs : List Fl} (h : Fls w a c fs) (b : Below w.heap.size w w') : Fls w' a c fs := by
  obtain ⟨h1, h2, h3, h4⟩ := h
  refine ⟨h1, h2, h3, fun hp => ?_⟩
  obtain ⟨g, off, e, hg, hc⟩ := h4 hp
  exact ⟨g, off, e, Nat.lt_of_lt_of_le hg b.size, fun j hj => ⟨(b.cell (p := ⟨g, off + j * 2, none⟩) hg).trans (hc j hj).1, (b.cell (p := ⟨g, off + j * 2 + 1, none⟩) hg).trans (hc j hj).2⟩⟩
theorem FO.fls {w : World} {g off c : Nat} {l : List Fl} (h : FO w g off c l) (hc : c ≤ maxLen) : Fls w (some ⟨g, off, none⟩) c l :=
  ⟨(fun e => by cases e), h.len, hc, fun _ => ⟨g, off, rfl, h.lt, fun j hj => ⟨h.c0 j hj, h.c1 j hj⟩⟩⟩
def rowW (l : List Fl) : List Value := l.flatMap fun f => [.int .i64 f.1, .int .i64 f.2]
theorem rowW_len (fs : List Fl) : (rowW fs).length = fs.length * 2 := by
  induction fs with
  | nil => rfl
  | cons f l ih =>
    show ([Value.int .i64 f.1, .int .i64 f.2] ++ rowW l).length = _
    have e : (f :: l).length = l.length + 1 := rfl
    have e2 : ([Value.int .i64 f.1, .int .i64 f.2] : List Value).length = 2 := rfl
    rw [List.length_append, ih, e, e2]; omega
theorem rowW_app (x y : List Fl) : rowW (x ++ y) = rowW x ++ rowW y := by unfold rowW; rw [List.flatMap_append]
theorem rowW_at : ∀ (fs : List Fl) (j : Nat), j < fs.length → (rowW fs)[j * 2]? = some (.int .i64 (fs.getD j (0, 0)).1) ∧ (rowW fs)[j * 2 + 1]? = some (.int .i64 (fs.getD j (0, 0)).2)
  | f :: l, 0, _ => ⟨rfl, rfl⟩
  | f :: l, j + 1, h => by
    have k := rowW_at l j (by simpa using h)
    have e1 : (j + 1) * 2 = j * 2 + 1 + 1 := by omega
    rw [e1]
    exact k
theorem rowW_one (fs : List Fl) : ∀ v ∈ rowW fs, v.oneCell' = true := by
  intro v hv
  unfold rowW at hv
  obtain ⟨f, _, hf⟩ := List.mem_flatMap.1 hv
  simp at hf
  rcases hf with rfl | rfl <;> rfl
theorem info_parts {P : Program} {t : TypeId} {z : Value} {s b : Nat} (h : (P.info? t).map (fun i => (i.zero, i.size, i.bytes)) = some (some z, s, b)) : ∃ i, P.info? t = some i ∧ i.zero = some z ∧ i.size = s ∧ i.bytes = b := by
  obtain ⟨i, hi, hz⟩ := Option.map_eq_some_iff.1 h
  injection hz with hz0 hz
  injection hz with hz1 hz2
  exact ⟨i, hi, hz0, hz1, hz2⟩
theorem infoW : (Try.prog.info? 31).map (fun i => (i.zero, i.size, i.bytes)) = some (some (.agg #[.int .i64 0, .int .i64 0]), 2, 16) := by kernel_rfl
/-- A row of one's own. -/
theorem owns_FO {B : Nat} {w : World} {v : Value} {l : List Fl} (h : w.ownsRow B 31 2 v l.length (rowW l)) (hl : 0 < l.length) : ∃ g c, v = .slice (some ⟨g, 0, none⟩) l.length c ∧ B ≤ g ∧ FO w g 0 c l ∧ c ≤ maxLen := by
  obtain ⟨h1, ⟨h2, h3⟩ | ⟨g, c, cur, hv, hB, hg, hlc, hm, hs, ht⟩⟩ := h
  · omega
  · refine ⟨g, c, hv, hB, ⟨cur, hg, by omega, hlc, fun j hj => ?_⟩, hm⟩
    have r := rowW_at l j hj
    have e : ∀ i, i < l.length * 2 → cur[i]? = (rowW l)[i]? := fun i hi => by
      rw [← ht, List.getElem?_take_of_lt hi, Array.getElem?_toList]
    rw [Nat.zero_add, e _ (by omega), e _ (by omega)]
    exact r
theorem wpList_append_run2 {P : Program} {w : World} {ops : Array Oper} {rest : List Oper} {o : Oper} {a : Act} {Q : Exit → Act → World → Prop} (hgd : o.guard = none) (s x : Operand) (t u : TypeId)
    (ho : o.op = .call { callee := .builtin .append, args := #[s, x], argTypes := #[t, u] }) (vs vx v' : Value) (w' : World) (hs : a.eval s = vs) (hx : a.eval x = vx) (hr : (Builtin.append_ #[t, u] o.type #[vs, vx]).run P w = .ok v' w')
    (h : wpList P ops Q rest (a.put o.dst v') w') : wpList P ops Q (o :: rest) a w := by
  refine wpList_plain hgd fun K hK => ?_
  unfold Oper.wp execOp
  simp only [ho, resolve, invoke, builtin, Sem.run_bind, Sem.run_pure, Result.andThen_ok, List.map_toArray, List.map_cons, List.map_nil, hs, hx, hr]
  exact hK _ _ h
/-- A copy of flows behind an empty row. -/
theorem clone_append (fs : List Fl) (g off c : Nat) (w : World) (hc : ∀ j, j < fs.length → w.cell? ⟨g, off + j * 2, none⟩ = some (.int .i64 (fs.getD j (0, 0)).1) ∧ w.cell? ⟨g, off + j * 2 + 1, none⟩ = some (.int .i64 (fs.getD j (0, 0)).2)) (hg : g < w.heap.size) (hl : fs.length ≤ 1000000) (hp : 0 < fs.length) :
    ∃ g' c' w', (Builtin.append_ #[22, 22] 22 #[.slice (some ⟨w.heap.size, 0, none⟩) 0 0, .slice (some ⟨g, off, none⟩) fs.length c]).run Try.prog (w.alloc (.cells #[] 31)) = .ok (.slice (some ⟨g', 0, none⟩) fs.length c') w' ∧ w.heap.size ≤ g' ∧ FO w' g' 0 c' fs ∧ c' ≤ maxLen ∧ Below w.heap.size w w' := by
  obtain ⟨i, hi, hz0, hz1, hz2⟩ := info_parts infoW
  have BA : Below w.heap.size w (w.alloc (.cells #[] 31)) := (Below.refl _ _).alloc (Nat.le_refl _) _
  have hown : (w.alloc (.cells #[] 31)).ownsRow w.heap.size 31 2 (.slice (some ⟨w.heap.size, 0, none⟩) 0 0) 0 [] := ⟨rfl, .inr ⟨w.heap.size, 0, #[], rfl, Nat.le_refl _, tblk_new _ _, Nat.le_refl _, by decide, rfl, rfl⟩⟩
  obtain ⟨v', w', hr, q1, q2, q3, q4⟩ := run_append_own_at (P := Try.prog) (w.alloc (.cells #[] 31)) w.heap.size 22 22 31 i (.agg #[.int .i64 0, .int .i64 0]) 2 16 Try.underlying22 hi hz0 hz1 hz2 rfl (by decide) _ 0 [] hown ⟨g, off, none⟩ fs.length c (rowW fs) (rowW_len fs)
      (fun j u hj => by
        have hjl := (List.getElem?_eq_some_iff.1 hj).1
        rw [rowW_len] at hjl
        rw [addr_add]
        have r := rowW_at fs (j / 2) (by omega)
        have q := hc (j / 2) (by omega)
        rcases Nat.mod_two_eq_zero_or_one j with m | m
        · have e1 : j / 2 * 2 = j := by omega
          rw [e1] at r q
          rw [(BA.cell (p := ⟨g, off + j, none⟩) hg), q.1, ← r.1, hj]
        · have e1 : j / 2 * 2 + 1 = j := by omega
          have e2 : off + j / 2 * 2 + 1 = off + j := by omega
          rw [e1] at r
          rw [e2] at q
          rw [(BA.cell (p := ⟨g, off + j, none⟩) hg), q.2, ← r.2, hj]) (rowW_one _) (by unfold maxLen; omega) (by omega) BA.size
  rw [Nat.zero_add, List.nil_append] at q1
  obtain ⟨g', c', rfl, h1, h2, h3⟩ := owns_FO q1 hp
  exact ⟨g', c', w', hr, h1, h2, h3, BA.grown q2 BA.size (fun q hq => (hown.lt q hq).1)⟩
theorem clone_none (ad : Addr) (c : Nat) (w : World) : ∃ v' w', (Builtin.append_ #[22, 22] 22 #[.slice (some ⟨w.heap.size, 0, none⟩) 0 0, .slice (some ad) 0 c]).run Try.prog (w.alloc (.cells #[] 31)) = .ok v' w' ∧ Below w.heap.size w w' ∧ ∃ a' c', v' = .slice a' 0 c' := by
  obtain ⟨i, hi, hz0, hz1, hz2⟩ := info_parts infoW
  have BA : Below w.heap.size w (w.alloc (.cells #[] 31)) := (Below.refl _ _).alloc (Nat.le_refl _) _
  have hown : (w.alloc (.cells #[] 31)).ownsRow w.heap.size 31 2 (.slice (some ⟨w.heap.size, 0, none⟩) 0 0) 0 [] := ⟨rfl, .inr ⟨w.heap.size, 0, #[], rfl, Nat.le_refl _, tblk_new _ _, Nat.le_refl _, by decide, rfl, rfl⟩⟩
  obtain ⟨v', w', hr, q1, q2, q3, q4⟩ := run_append_own_at (P := Try.prog) (w.alloc (.cells #[] 31)) w.heap.size 22 22 31 i (.agg #[.int .i64 0, .int .i64 0]) 2 16 Try.underlying22 hi hz0 hz1 hz2 rfl (by decide) _ 0 [] hown ad 0 c [] rfl (fun j u hj => by simp at hj) (fun v hv => by cases hv) (by decide) (by decide) BA.size
  refine ⟨v', w', hr, BA.grown q2 BA.size (fun q hq => (hown.lt q hq).1), ?_⟩
  obtain ⟨_, ⟨h2, h3⟩ | ⟨g, c', cur, hv, _⟩⟩ := q1
  · exact ⟨none, 0, h2⟩
  · exact ⟨_, c', hv⟩
set_option maxHeartbeats 1000000 in
theorem rbclone_any (fs : List Fl) (a : Option Addr) (c : Nat) (w : World) (h : Fls w a c fs) (hl : fs.length ≤ 1000000) :
    Calls Try.prog 11 #[.slice a fs.length c] w fun e w' => ∃ a' c', e = .returned (.slice a' fs.length c') ∧ Below w.heap.size w w' ∧ (0 < fs.length → ∃ g, a' = some ⟨g, 0, none⟩ ∧ w.heap.size ≤ g ∧ FO w' g 0 c' fs ∧ c' ≤ maxLen) := by
  obtain ⟨h1, h2, h3, h4⟩ := h
  rcases Nat.eq_zero_or_pos fs.length with h0 | hp
  · rw [h0]
    cases a with
    | none =>
      have hnil : ∀ W : World, (binOp .eql 22 (.slice none 0 c) (.slice none 0 0)).run Try.prog W = .ok (.bool true) W := fun W => Lib.run_eql_slice_nil W 22 31 none 0 c 0 0 Try.underlying22
      clear h1 h2 h3 h4
      go_enter Try.func11, Try.ntmps11
      go_wp2
      go_ret
      exact ⟨none, 0, rfl, Below.refl _ _, fun q => absurd q (Nat.lt_irrefl _)⟩
    | some ad =>
      have hnil : ∀ W : World, (binOp .eql 22 (.slice (some ad) 0 c) (.slice none 0 0)).run Try.prog W = .ok (.bool false) W := fun W => Lib.run_eql_slice_nil W 22 31 _ 0 c 0 0 Try.underlying22
      obtain ⟨v', w', hr, hB, hv⟩ := clone_none ad c w
      clear h1 h2 h3 h4
      go_enter Try.func11, Try.ntmps11
      go_wp2_with (at_builtin; refine wpList_append_run2 rfl _ _ 22 22 rfl _ _ _ w' rfl rfl hr ?_)
      go_ret
      obtain ⟨a', c', rfl⟩ := hv
      exact ⟨a', c', rfl, hB, fun q => absurd q (Nat.lt_irrefl _)⟩
  · obtain ⟨g, off, rfl, hg, hc⟩ := h4 hp
    obtain ⟨g', c', w', hr, k1, k2, k3, k4⟩ := clone_append fs g off c w hc hg hl hp
    clear h1 h2 h3 h4 hc
    generalize fs.length = n at *
    have hnil : ∀ W : World, (binOp .eql 22 (.slice (some ⟨g, off, none⟩) n c) (.slice none 0 0)).run Try.prog W = .ok (.bool false) W := fun W => Lib.run_eql_slice_nil W 22 31 _ n c 0 0 Try.underlying22
    go_enter Try.func11, Try.ntmps11
    go_wp2_with (at_builtin; refine wpList_append_run2 rfl _ _ 22 22 rfl _ _ _ w' rfl rfl hr ?_)
    go_ret
    exact ⟨_, c', rfl, k4, fun _ => ⟨g', rfl, k1, k2, k3⟩⟩
end Go.Proofs.Ytnfpbkllpkbdiaa
