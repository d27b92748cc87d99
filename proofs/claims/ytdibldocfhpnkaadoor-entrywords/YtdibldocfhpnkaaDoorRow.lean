/- A row of bytes that grows in memory of the walk's own. -/
import Derived.Test.YtdibldocfhpnkaaDoorByt
import Derived.Lib.AppendStr
import Derived.Deep.Strs
namespace Go.Proofs.YtdibldocfhpnkaaDoor
open Go.ChangeShapes Go.WideShapes Go.ChangeAt Go.RowKit
set_option linter.unusedVariables false

/-- The bytes X, in a block from B on. -/
def Own (B : Nat) (w : World) (v : Value) (X : List UInt8) : Prop := w.ownsRow B 5 1 v X.length (rowB X)
theorem Own.form {B : Nat} {w : World} {v : Value} {X : List UInt8} (h : Own B w v X) : ∃ a c, v = .slice a X.length c ∧ (a = none → c = 0) := by
  obtain ⟨h1, ⟨h2, h3⟩ | ⟨g, c, cur, hv, _⟩⟩ := h
  · exact ⟨none, 0, by rw [h2, h3], fun _ => rfl⟩
  · exact ⟨_, c, hv, fun e => by cases e⟩
theorem Own.src {B : Nat} {w : World} {v : Value} {X : List UInt8} (h : Own B w v X) : ∃ k, Src w k v X ∧ (0 < X.length → B ≤ k ∧ k < w.heap.size) := by
  have h0 := h
  obtain ⟨h1, ⟨h2, h3⟩ | ⟨g, c, cur, hv, hB, hg, hl, hm, hs, ht⟩⟩ := h
  · refine ⟨0, ⟨none, 0, by rw [h2, h3], by omega, Nat.zero_le _, fun q => by omega⟩, fun q => by omega⟩
  · refine ⟨g, ⟨_, c, hv, hl, hm, fun _ => ⟨0, rfl, fun j hj => ?_⟩⟩, fun _ => ⟨hB, heap_lt hg⟩⟩
    have k := (hv ▸ h0 : w.ownsRow B 5 1 (.slice (some ⟨g, 0, none⟩) X.length c) X.length (rowB X)).cellAt j (by omega)
    rw [Nat.zero_add, k]
    unfold rowB
    rw [List.getElem?_map, List.getElem?_eq_getElem hj]; rfl
theorem Own.keep {B : Nat} {w w' : World} {v : Value} {X : List UInt8} (h : Own B w v X) (b : Below w.heap.size w w') : Own B w' v X := by
  obtain ⟨h1, h2⟩ := h
  refine ⟨h1, ?_⟩
  rcases h2 with h2 | ⟨g, cap, cur, hv, hg, hh, r⟩
  · exact .inl h2
  · exact .inr ⟨g, cap, cur, hv, hg, (b.block g (Array.getElem?_eq_some_iff.1 hh).1).trans hh, r⟩
theorem Own.mono {B C : Nat} {w : World} {v : Value} {X : List UInt8} (h : Own B w v X) (hC : C ≤ B) : Own C w v X := by
  obtain ⟨h1, h2⟩ := h
  refine ⟨h1, ?_⟩
  rcases h2 with h2 | ⟨g, cap, cur, hv, hg, r⟩
  · exact .inl h2
  · exact .inr ⟨g, cap, cur, hv, Nat.le_trans hC hg, r⟩
theorem Own.empty (B : Nat) (w : World) (hB : B ≤ w.heap.size) : Own B (w.alloc (.cells #[] 5)) (.slice (some ⟨w.heap.size, 0, none⟩) 0 0) [] :=
  ⟨rfl, .inr ⟨w.heap.size, 0, #[], rfl, hB, new_at _ _, Nat.le_refl _, by decide, rfl, rfl⟩⟩
theorem Own.nil (B : Nat) (w : World) : Own B w (.slice none 0 0) [] := World.ownsRow_nil _ _ _ _
/-- Bytes appended. -/
theorem own_append {B : Nat} {w : World} {k : Nat} {v : Value} {X Y : List UInt8} {a : Option Addr} {n c : Nat} (h : Own B w v X) (hs : Src w k (.slice a n c) Y) (hnil : a = none → c = 0) (hmax : X.length + Y.length ≤ 140737488355328) (hB : B ≤ w.heap.size) :
    ∃ v' w', (Builtin.append_ #[25, 25] 25 #[v, .slice a n c]).run Tryd.prog w = .ok v' w' ∧ Own B w' v' (X ++ Y) ∧ Below B w w' := by
  obtain ⟨i, hi, hz0, hz1, hz2⟩ := info_parts infoB3
  obtain ⟨a', c', e, h1, h2, h3⟩ := hs
  obtain ⟨e1, e2, e3⟩ := slice_inj e
  subst e1 e2 e3
  have hmx : X.length + Y.length ≤ maxLen := by unfold maxLen; omega
  cases a with
  | none =>
    have hc := hnil rfl
    have hy : Y = [] := by
      rcases Nat.eq_zero_or_pos Y.length with q | q
      · exact List.eq_nil_of_length_eq_zero q
      · obtain ⟨_, q, _⟩ := h3 q; cases q
    subst hy hc
    exact ⟨v, w, run_append_owned_none w B 25 25 5 i 1 Tryd.underlying25 hi v _ _ h, by rw [List.append_nil]; exact h, Below.refl _ _⟩
  | some ad =>
    obtain ⟨v', w', hr, q1, q2, q3, q4⟩ := run_append_own_at (P := Tryd.prog) w B 25 25 5 i (.int .u8 0) 1 1 Tryd.underlying25 hi hz0 hz1 hz2 rfl (by decide) v X.length (rowB X) h ad Y.length c (rowB Y) (by rw [rowB_length]; omega)
      (fun j u hj => by
        unfold rowB at hj
        rw [List.getElem?_map] at hj
        obtain ⟨x, hx, rfl⟩ := Option.map_eq_some_iff.1 hj
        have hjl := (List.getElem?_eq_some_iff.1 hx).1
        obtain ⟨off, ha, hc⟩ := h3 (by omega)
        have : ad = ⟨k, off, none⟩ := by simpa using ha
        subst this
        rw [addr_add, hc j hjl, (List.getElem?_eq_some_iff.1 hx).2]) (bvs_one _) hmx (by omega) hB
    refine ⟨v', w', hr, ?_, (Below.refl _ _).grown q2 hB (fun q hq => (h.lt q hq).1)⟩
    unfold Own
    rw [List.length_append, rowB_app]; exact q1
/-- A text's bytes appended. -/
theorem own_append_str {B : Nat} {w : World} {v : Value} {X : List UInt8} {s : ByteArray} (h : Own B w v X) (hmax : X.length + s.size ≤ 140737488355328) (hB : B ≤ w.heap.size) :
    ∃ v' w', (Builtin.append_ #[25, 9] 25 #[v, .string s]).run Tryd.prog w = .ok v' w' ∧ Own B w' v' (X ++ s.data.toList) ∧ Below B w w' := by
  obtain ⟨i, hi, hz0, hz1, hz2⟩ := info_parts infoB3
  obtain ⟨v', w', hr, q1, q2, q3⟩ := Lib.run_append_own_string (P := Tryd.prog) w B 25 9 25 5 i Tryd.underlying25 Tryd.underlying9 hi hz0 hz1 hz2 v X.length (rowB X) h s (by unfold maxLen; omega) hmax hB
  refine ⟨v', w', hr, ?_, (Below.refl _ _).grown q2 hB (fun q hq => (h.lt q hq).1)⟩
  unfold Own
  rw [List.length_append, rowB_app]; exact q1
theorem wpList_append_run2 {P : Program} {w : World} {ops : Array Oper} {rest : List Oper} {o : Oper} {a : Act} {Q : Exit → Act → World → Prop} (hgd : o.guard = none) (s x : Operand) (t u : TypeId)
    (ho : o.op = .call { callee := .builtin .append, args := #[s, x], argTypes := #[t, u] }) (vs vx v' : Value) (w' : World) (hs : a.eval s = vs) (hx : a.eval x = vx) (hr : (Builtin.append_ #[t, u] o.type #[vs, vx]).run P w = .ok v' w')
    (h : wpList P ops Q rest (a.put o.dst v') w') : wpList P ops Q (o :: rest) a w := by
  refine wpList_plain hgd fun K hK => ?_
  unfold Oper.wp execOp
  simp only [ho, resolve, invoke, builtin, Sem.run_bind, Sem.run_pure, Result.andThen_ok, List.map_toArray, List.map_cons, List.map_nil, hs, hx, hr]
  exact hK _ _ h
theorem Src.len {w : World} {k : Nat} {a : Option Addr} {n c : Nat} {b : List UInt8} (h : Src w k (.slice a n c) b) : b.length = n ∧ n ≤ c ∧ c ≤ maxLen := by
  obtain ⟨a', c', e, h1, h2, h3⟩ := h
  obtain ⟨e1, e2, e3⟩ := slice_inj e
  subst e1 e2 e3
  exact ⟨rfl, h1, h2⟩
theorem Src.keep {w w' : World} {k : Nat} {v : Value} {b : List UInt8} (h : Src w k v b) (hk : 0 < b.length → k < w.heap.size) (hB : Below w.heap.size w w') : Src w' k v b := by
  rcases Nat.eq_zero_or_pos b.length with c | c
  · obtain ⟨x, y, e, q1, q2, q3⟩ := h
    exact ⟨x, y, e, q1, q2, fun q => by omega⟩
  · exact h.frame (hB.block k (hk c))
theorem Src.keepB {B : Nat} {w w' : World} {k : Nat} {v : Value} {b : List UInt8} (h : Src w k v b) (hk : 0 < b.length → k < B) (hB : Below B w w') : Src w' k v b := by
  rcases Nat.eq_zero_or_pos b.length with c | c
  · obtain ⟨x, y, e, q1, q2, q3⟩ := h
    exact ⟨x, y, e, q1, q2, fun q => by omega⟩
  · exact h.frame (hB.block k (hk c))
theorem cat_data (x : List UInt8) (y : Array UInt8) : (⟨x.toArray⟩ : ByteArray) ++ ⟨y⟩ = ⟨(x ++ y.toList).toArray⟩ := by
  apply ByteArray.ext
  show ((⟨x.toArray⟩ : ByteArray) ++ ⟨y⟩).data = _
  rw [ByteArray.data_append]
  apply Array.toList_inj.1
  simp
theorem sum_run (W : World) (a b : ByteArray) (h : a.size + b.size ≤ 281474976710656) : (Op.stringOp .add a b).run Tryd.prog W = .ok (.string (a ++ b)) W :=
  run_string_add_sum W a b (by omega)
theorem ret_bool {x y : Bool} (h : x = y) : Ending.returned (.bool x) = .returned (.bool y) := by rw [h]
end Go.Proofs.YtdibldocfhpnkaaDoor
