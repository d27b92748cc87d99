/- A row of bytes that grows; slices cut; arguments that are lists of numbers. -/
import Derived.Test.YtdifcagmkkccoaaRingG
import Derived.Maps.AppendAt
import Derived.Laws.OwnMore
namespace Go.Proofs.Ytdifcagmkkccoaa
open Go.RowKit
set_option linter.unusedVariables false

/-- The bytes X, in block g, which the walk itself has made. -/
def Acc (w : World) (g : Nat) (v : Value) (X : List UInt8) : Prop := v.ownBlock = some g ∧ w.ownsRow 0 5 1 v X.length (rowB X)
theorem Acc.form {w : World} {g : Nat} {v : Value} {X : List UInt8} (h : Acc w g v X) : ∃ c, v = .slice (some ⟨g, 0, none⟩) X.length c := by
  obtain ⟨h1, h2, h3 | ⟨g', c, cur, hv, _⟩⟩ := h
  · rw [h3.1] at h1; cases h1
  · rw [hv] at h1
    have : g' = g := by simpa [Value.ownBlock] using h1
    subst this
    exact ⟨c, hv⟩
theorem Acc.src {w : World} {g : Nat} {v : Value} {X : List UInt8} (h : Acc w g v X) : Src w g v X := by
  obtain ⟨c, hv⟩ := h.form
  obtain ⟨h1, h2⟩ := h
  have h3 := h2
  obtain ⟨h4, h5 | ⟨g', c', cur, hv', _, hg, hl, hm, hs, ht⟩⟩ := h2
  · rw [hv] at h5; cases h5.1
  · rw [hv] at hv'
    injection hv' with e1 e2 e3
    have eg : g = g' := by simpa using e1
    subst e3
    refine ⟨_, _, hv, hl, hm, fun _ => ⟨0, rfl, fun j hj => ?_⟩⟩
    have k := (hv ▸ h3 : w.ownsRow 0 5 1 (.slice (some ⟨g, 0, none⟩) X.length c) X.length (rowB X)).cellAt j (by omega)
    rw [Nat.zero_add, k]
    unfold rowB
    rw [List.getElem?_map, List.getElem?_eq_getElem hj]; rfl
theorem Acc.lt {w : World} {g : Nat} {v : Value} {X : List UInt8} (h : Acc w g v X) : g < w.heap.size := by
  obtain ⟨h1, h2, h3 | ⟨g', c, cur, hv, _, hg, _⟩⟩ := h
  · rw [h3.1] at h1; cases h1
  · rw [hv] at h1
    have : g' = g := by simpa [Value.ownBlock] using h1
    subst this
    exact heap_lt hg
theorem Acc.frame {w w' : World} {g : Nat} {v : Value} {X : List UInt8} (h : Acc w g v X) (hk : w'.heap[g]? = w.heap[g]?) : Acc w' g v X := by
  obtain ⟨h1, h2, h3 | ⟨g', c, cur, hv, hb, hg, r⟩⟩ := h
  · rw [h3.1] at h1; cases h1
  · have hg' := h1
    rw [hv] at hg'
    have : g' = g := by simpa [Value.ownBlock] using hg'
    subst this
    exact ⟨h1, h2, .inr ⟨g', c, cur, hv, hb, hk.trans hg, r⟩⟩
theorem Acc.empty (w : World) : Acc (w.alloc (.cells #[] 5)) w.heap.size (.slice (some ⟨w.heap.size, 0, none⟩) 0 0) [] :=
  ⟨rfl, rfl, .inr ⟨w.heap.size, 0, #[], rfl, Nat.zero_le _, new_at _ _, Nat.le_refl _, by decide, rfl, rfl⟩⟩
/-- Bytes appended. -/
theorem acc_append {w : World} {g k : Nat} {v : Value} {X Y : List UInt8} {a : Option Addr} {n c : Nat} (h : Acc w g v X) (hs : Src w k (.slice a n c) Y) (hnil : a = none → c = 0) (hmax : X.length + Y.length ≤ 140737488355328) :
    ∃ v' w' g', (Builtin.append_ #[35, 35] 35 #[v, .slice a n c]).run Try.prog w = .ok v' w' ∧ Acc w' g' v' (X ++ Y) ∧ (g' = g ∨ (w.heap.size ≤ g' ∧ g' < w'.heap.size)) ∧ Kp (fun k => k = g) w w' := by
  obtain ⟨i, hi, hz0, hz1, hz2⟩ := info_parts infoB3
  obtain ⟨a', c', e, h1, h2, h3⟩ := hs
  injection e with e1 e2 e3
  subst e1 e2 e3
  have hmx : X.length + Y.length ≤ maxLen := by unfold maxLen; omega
  cases a with
  | none =>
    have hc := hnil rfl
    have hy : Y = [] := by
      rcases Nat.eq_zero_or_pos Y.length with q | q
      · exact List.eq_nil_of_length_eq_zero q
      · obtain ⟨_, q, _⟩ := h3 q; cases q
    subst hy hc
    refine ⟨v, w, g, run_append_owned_none w 0 35 35 5 i 1 Try.underlying35 hi v _ _ h.2, by rw [List.append_nil]; exact h, .inl rfl, Kp.refl _ _⟩
  | some ad =>
    obtain ⟨v', w', hr, q1, q2, q3, q4⟩ := run_append_own_at (P := Try.prog) w 0 35 35 5 i (.int .u8 0) 1 1 Try.underlying35 hi hz0 hz1 hz2 rfl (by decide) v X.length (rowB X) h.2 ad Y.length c (rowB Y) (by rw [rowB_length]; omega)
      (fun j u hj => by
        unfold rowB at hj
        rw [List.getElem?_map] at hj
        obtain ⟨x, hx, rfl⟩ := Option.map_eq_some_iff.1 hj
        have hjl := (List.getElem?_eq_some_iff.1 hx).1
        obtain ⟨off, ha, hc⟩ := h3 (by omega)
        have : ad = ⟨k, off, none⟩ := by simpa using ha
        subst this
        rw [addr_add, hc j hjl, (List.getElem?_eq_some_iff.1 hx).2]) (bvs_one _) hmx (by omega) (Nat.zero_le _)
    have hk : Kp (fun k => k = g) w w' := ⟨q2.os, q2.tape, q2.output, q2.size, fun j hj hn => q2.block j hj (fun c => hn (by rw [h.1] at c; exact Option.some.inj c))⟩
    have hrow : w'.ownsRow 0 5 1 v' (X ++ Y).length (rowB (X ++ Y)) := by rw [List.length_append, rowB_app]; exact q1
    rcases q4 with q4 | q4
    · exact ⟨v', w', g, hr, ⟨q4.trans h.1, hrow⟩, .inl rfl, hk⟩
    · exact ⟨v', w', w.heap.size, hr, ⟨q4, hrow⟩, .inr ⟨Nat.le_refl _, Acc.lt ⟨q4, hrow⟩⟩, hk⟩
theorem Src.take {w : World} {k n m c : Nat} {a : Option Addr} {b : List UInt8} (h : Src w k (.slice a n c) b) (hm : m ≤ b.length) : Src w k (.slice a m c) (b.take m) := by
  obtain ⟨a', c', e, h1, h2, h3⟩ := h
  injection e with e1 e2 e3
  subst e1 e2 e3
  have hl : (b.take m).length = m := by rw [List.length_take]; omega
  refine ⟨a, c, by rw [hl], by omega, h2, fun hp => ?_⟩
  obtain ⟨off, ha, hc⟩ := h3 (by omega)
  exact ⟨off, ha, fun j hj => by rw [List.getElem_take]; exact hc j (by omega)⟩
theorem Src.cut {w : World} {k n m c : Nat} {a a' : Option Addr} {b : List UInt8} (h : Src w k (.slice a n c) b) (hm : m ≤ b.length) (ha' : m < c → a' = a.map (fun x => x.add m)) : Src w k (.slice a' (n - m) (c - m)) (b.drop m) := by
  obtain ⟨a0, c', e, h1, h2, h3⟩ := h
  injection e with e1 e2 e3
  subst e1 e2 e3
  refine ⟨a', c - m, by rw [List.length_drop], by rw [List.length_drop]; omega, by omega, fun hp => ?_⟩
  rw [List.length_drop] at hp
  obtain ⟨off, ha, hc⟩ := h3 (by omega)
  refine ⟨off + m, by rw [ha' (by omega), ha]; simp [addr_add], fun j hj => ?_⟩
  rw [List.length_drop] at hj
  rw [List.getElem_drop, Nat.add_assoc]
  exact hc (m + j) (by omega)
/-- An empty slice lies wherever one says. -/
theorem Src.any {w : World} {k g B : Nat} {v : Value} {b : List UInt8} (h : Src w k v b) (hk : 0 < b.length → k < B) : ∃ k', (k' < B ∨ k' = g) ∧ Src w k' v b := by
  rcases Nat.eq_zero_or_pos b.length with c | c
  · obtain ⟨a, c', e, h1, h2, h3⟩ := h
    exact ⟨g, .inr rfl, a, c', e, h1, h2, fun q => by omega⟩
  · exact ⟨k, .inl (hk c), h⟩
theorem wpList_append_run {P : Program} {w : World} {ops : Array Oper} {rest : List Oper} {o : Oper} {a : Act} {Q : Exit → Act → World → Prop} (hgd : o.guard = none) (s x : Operand) (t : TypeId)
    (ho : o.op = .call { callee := .builtin .append, args := #[s, x], argTypes := #[t, t] }) (vs vx v' : Value) (w' : World) (hs : a.eval s = vs) (hx : a.eval x = vx) (hr : (Builtin.append_ #[t, t] o.type #[vs, vx]).run P w = .ok v' w')
    (h : wpList P ops Q rest (a.put o.dst v') w') : wpList P ops Q (o :: rest) a w := by
  refine wpList_plain hgd fun K hK => ?_
  unfold Oper.wp execOp
  simp only [ho, resolve, invoke, builtin, Sem.run_bind, Sem.run_pure, Result.andThen_ok, List.map_toArray, List.map_cons, List.map_nil, hs, hx, hr]
  exact hK _ _ h
end Go.Proofs.Ytdifcagmkkccoaa
