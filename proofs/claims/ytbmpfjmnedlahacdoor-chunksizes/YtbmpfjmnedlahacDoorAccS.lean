/- Two rows of bytes that grow side by side. -/
import Derived.Test.YtbmpfjmnedlahacDoorStp
namespace Go.Proofs.YtbmpfjmnedlahacDoor
open Go.RowKit
set_option linter.unusedVariables false

theorem res_inj {α : Type} {v v' : α} {w w' : World} (h : (Result.ok v w : Result α) = .ok v' w') : v = v' := by cases h; rfl
set_option maxRecDepth 100000 in
theorem acc_append_str {w : World} {g : Nat} {v : Value} {X : List UInt8} {s : ByteArray} (h : Acc w g v X) (hmax : X.length + s.size ≤ 140737488355328) :
    ∃ v' w' g', (Builtin.append_ #[25, 9] 25 #[v, .string s]).run Tryd.prog w = .ok v' w' ∧ Acc w' g' v' (X ++ s.data.toList) ∧ (g' = g ∨ (w.heap.size ≤ g' ∧ g' < w'.heap.size)) ∧ Kp (fun k => k = g) w w' := by
  obtain ⟨i, hi, hz0, hz1, hz2⟩ := info_parts infoB3
  obtain ⟨v', w', hr, q1, q2, q3⟩ := Lib.run_append_own_string (P := Tryd.prog) w 0 25 9 25 5 i Tryd.underlying25 Tryd.underlying9 hi hz0 hz1 hz2 v X.length (rowB X) h.2 s (by unfold maxLen; omega) hmax (Nat.zero_le _)
  have hk : Kp (fun k => k = g) w w' := ⟨q2.os, q2.tape, q2.output, q2.size, fun j hj hn => q2.block j hj (fun c => hn (by rw [h.1] at c; exact Option.some.inj c))⟩
  have hrow : w'.ownsRow 0 5 1 v' (X ++ s.data.toList).length (rowB (X ++ s.data.toList)) := by rw [List.length_append, rowB_app]; exact q1
  have h0 := h
  obtain ⟨e1, e2, ⟨e3, _⟩ | ⟨g', c, cur, hv, hB, hg, hl, hm, hs, ht⟩⟩ := h
  · rw [e3] at e1; cases e1
  · have hgg : g' = g := by rw [hv] at e1; simpa [Value.ownBlock] using e1
    subst hgg
    by_cases hroom : X.length + s.size ≤ c
    · have hr2 := Lib.run_append_room_string (P := Tryd.prog) w 25 9 25 5 i Tryd.underlying25 Tryd.underlying9 hi hz1 g' X.length c cur hg s hroom (by omega)
      rw [hv, hr2] at hr
      have hb : v'.ownBlock = some g' := by rw [← res_inj hr]; rfl
      exact ⟨v', w', g', by rw [hv, hr2]; exact hr, ⟨hb, hrow⟩, .inl rfl, hk⟩
    · have hr2 := Lib.run_append_grow_string (P := Tryd.prog) w 25 9 25 5 i (.int .u8 0) Tryd.underlying25 Tryd.underlying9 hi hz0 ⟨g', 0, none⟩ X.length c (rowB X) (by rw [hz1, rowB_length]; omega) ((hv ▸ h0.2 : w.ownsRow 0 5 1 (.slice (some ⟨g', 0, none⟩) X.length c) X.length (rowB X)).cells (g := g') rfl) s (by omega) (by omega) (by rw [hz2]; exact growslice_fits (by omega) (by omega))
      rw [hv, hr2] at hr
      have hb : v'.ownBlock = some w.heap.size := by rw [← res_inj hr]; rfl
      exact ⟨v', w', w.heap.size, by rw [hv, hr2]; exact hr, ⟨hb, hrow⟩, .inr ⟨Nat.le_refl _, Acc.lt ⟨hb, hrow⟩⟩, hk⟩

/-- Two rows, x and y, in blocks of their own. -/
def Two (w wr : World) (vx vy : Value) (x y : List UInt8) : Prop := ∃ gx gy, Acc wr gx vx x ∧ Acc wr gy vy y ∧ gx ≠ gy ∧ w.heap.size ≤ gx ∧ w.heap.size ≤ gy ∧ Below w.heap.size w wr
theorem Two.bel {w wr : World} {vx vy : Value} {x y : List UInt8} (h : Two w wr vx vy x y) : Below w.heap.size w wr := by obtain ⟨_, _, _, _, _, _, _, b⟩ := h; exact b
theorem Two.swap {w wr : World} {vx vy : Value} {x y : List UInt8} (h : Two w wr vx vy x y) : Two w wr vy vx y x := by
  obtain ⟨gx, gy, h1, h2, h3, h4, h5, h6⟩ := h; exact ⟨gy, gx, h2, h1, Ne.symm h3, h5, h4, h6⟩
theorem Two.keep {w wr wr' : World} {vx vy : Value} {x y : List UInt8} (h : Two w wr vx vy x y) (b : Below wr.heap.size wr wr') : Two w wr' vx vy x y := by
  obtain ⟨gx, gy, h1, h2, h3, h4, h5, h6⟩ := h
  exact ⟨gx, gy, h1.frame (b.block gx h1.lt), h2.frame (b.block gy h2.lt), h3, h4, h5, h6.trans (b.mono h6.size)⟩
theorem Two.alloc {w wr : World} {vx vy : Value} {x y : List UInt8} (h : Two w wr vx vy x y) (o : Obj) : Two w (wr.alloc o) vx vy x y := h.keep ((Below.refl _ _).alloc (Nat.le_refl _) _)
theorem Two.drew {w wr : World} {vx vy : Value} {x y : List UInt8} (h : Two w wr vx vy x y) : Two w wr.drew vx vy x y := h.keep (Below.refl _ _).drew
theorem two_after {w wr w' : World} {vx vy v' : Value} {x y x' : List UInt8} {gx gy g' : Nat} (h2 : Acc wr gy vy y) (h3 : gx ≠ gy) (h4 : w.heap.size ≤ gx) (h5 : w.heap.size ≤ gy) (h6 : Below w.heap.size w wr) (ha : Acc w' g' v' x') (hg : g' = gx ∨ (wr.heap.size ≤ g' ∧ g' < w'.heap.size)) (hk : Kp (fun k => k = gx) wr w') : Two w w' v' vy x' y := by
  have hl := h2.lt
  have hs := h6.size
  exact ⟨g', gy, ha, h2.frame (hk.block gy hl (fun e => h3 e.symm)), by omega, by omega, h5, h6.trans (hk.below h6.size (fun k hk e => by omega))⟩
theorem Two.app {w wr : World} {vx vy : Value} {x y Y : List UInt8} {k : Nat} {a : Option Addr} {n c : Nat} (h : Two w wr vx vy x y) (hs : Src wr k (.slice a n c) Y) (hnil : a = none → c = 0) (hmax : x.length + Y.length ≤ 140737488355328) :
    ∃ v' w', (Builtin.append_ #[25, 25] 25 #[vx, .slice a n c]).run Tryd.prog wr = .ok v' w' ∧ Two w w' v' vy (x ++ Y) y := by
  obtain ⟨gx, gy, h1, h2, h3, h4, h5, h6⟩ := h
  obtain ⟨v', w', g', r, ha, hg, hk⟩ := acc_append h1 hs hnil hmax
  exact ⟨v', w', r, two_after (vx := vx) (x := x) h2 h3 h4 h5 h6 ha hg hk⟩
theorem Two.appS {w wr : World} {vx vy : Value} {x y : List UInt8} {s : ByteArray} (h : Two w wr vx vy x y) (hmax : x.length + s.size ≤ 140737488355328) :
    ∃ v' w', (Builtin.append_ #[25, 9] 25 #[vx, .string s]).run Tryd.prog wr = .ok v' w' ∧ Two w w' v' vy (x ++ s.data.toList) y := by
  obtain ⟨gx, gy, h1, h2, h3, h4, h5, h6⟩ := h
  obtain ⟨v', w', g', r, ha, hg, hk⟩ := acc_append_str h1 hmax
  exact ⟨v', w', r, two_after (vx := vx) (x := x) h2 h3 h4 h5 h6 ha hg hk⟩
theorem Two.app2 {w wr : World} {vx vy : Value} {x y Y : List UInt8} {k : Nat} {a : Option Addr} {n c : Nat} (h : Two w wr vx vy x y) (hs : Src wr k (.slice a n c) Y) (hnil : a = none → c = 0) (hmax : x.length + Y.length ≤ 140737488355328) :
    ∃ v' w', (Builtin.append_ #[25, 25] 25 #[vx, .slice a n c]).run Tryd.prog wr = .ok v' w' ∧ Two w w' v' vy (x ++ Y) y ∧ (∀ u, Two w u vx vy x y → ∀ k, u.heap.size ≤ k → k < wr.heap.size → w'.heap[k]? = wr.heap[k]?) := by
  obtain ⟨gx, gy, h1, h2, h3, h4, h5, h6⟩ := h
  obtain ⟨v', w', g', r, ha, hg, hk⟩ := acc_append h1 hs hnil hmax
  refine ⟨v', w', r, two_after (vx := vx) (x := x) h2 h3 h4 h5 h6 ha hg hk, ?_⟩
  rintro u ⟨gu, _, q1, _⟩ j hj hj2
  have e : gu = gx := by have := q1.1.symm.trans h1.1; exact Option.some.inj this
  have hl := q1.lt
  exact hk.block j hj2 (fun c => by omega)
theorem step_two2 {ops : Array Oper} {o : Oper} {a : Act} {K : Act → World → Prop} {Q : Exit → Act → World → Prop} {E : Prop} {W : World} (hgd : o.guard = none) (s x : Operand)
    (ho : o.op = .call { callee := .builtin .append, args := #[s, x], argTypes := #[25, 25] }) (hty : o.type = 25)
    (w : World) (vx vy : Value) (X Z : List UInt8) (hs : a.eval s = vx) (h : Two w W vx vy X Z) (k : Nat) (ad : Option Addr) (n c : Nat) (Y : List UInt8) (hx : a.eval x = .slice ad n c) (hsrc : Src W k (.slice ad n c) Y) (hnil : ad = none → c = 0) (hmax : X.length + Y.length ≤ 140737488355328)
    (hK : ∀ v' w', Two w w' v' vy (X ++ Y) Z → (∀ u, Two w u vx vy X Z → ∀ k, u.heap.size ≤ k → k < W.heap.size → w'.heap[k]? = W.heap[k]?) → K (a.put o.dst v') w') :
    if Region.wanted o (yielded ops a.tmps) = true then Oper.wp Tryd.prog o a W K Q else E := by
  have hw : Region.wanted o (yielded ops a.tmps) = true := by simp [Region.wanted, hgd]
  rw [if_pos hw]
  obtain ⟨v', w', hr, O, F⟩ := h.app2 hsrc hnil hmax
  unfold Oper.wp execOp
  simp only [ho, hty, resolve, invoke, builtin, Sem.run_bind, Sem.run_pure, Result.andThen_ok, List.map_toArray, List.map_cons, List.map_nil, hs, hx, hr]
  exact hK v' w' O F
theorem step_index {ops : Array Oper} {o : Oper} {a : Act} {K : Act → World → Prop} {Q : Exit → Act → World → Prop} {E : Prop} {W : World} (hgd : o.guard = none) (t : TypeId) (s x : Operand)
    (ho : o.op = .index t s x) (vs vx v : Value) (hs : a.eval s = vs) (hx : a.eval x = vx) (hr : (Instr.index t vs vx).run Tryd.prog W = .ok v W) (hK : K (a.put o.dst v) W) :
    if Region.wanted o (yielded ops a.tmps) = true then Oper.wp Tryd.prog o a W K Q else E := by
  have hw : Region.wanted o (yielded ops a.tmps) = true := by simp [Region.wanted, hgd]
  rw [if_pos hw]
  unfold Oper.wp execOp
  simp only [ho, Sem.run_bind, Sem.run_pure, Result.andThen_ok, hs, hx, hr]
  exact hK
theorem Two.new (w wr : World) (hB : Below w.heap.size w wr) : Two w ((wr.alloc (.cells #[] 5)).alloc (.cells #[] 5)) (.slice (some ⟨wr.heap.size, 0, none⟩) 0 0) (.slice (some ⟨wr.heap.size + 1, 0, none⟩) 0 0) [] [] := by
  have h1 := (Acc.empty wr).frame (w' := (wr.alloc (.cells #[] 5)).alloc (.cells #[] 5)) (((Below.refl _ _).alloc (Nat.le_refl _) _).block wr.heap.size (by simp))
  have h2 := Acc.empty (wr.alloc (.cells #[] 5))
  have e : (wr.alloc (.cells #[] 5)).heap.size = wr.heap.size + 1 := by simp
  rw [e] at h2
  exact ⟨wr.heap.size, wr.heap.size + 1, h1, h2, by omega, hB.size, by have := hB.size; omega, (hB.alloc hB.size _).alloc (by have := hB.size; simp; omega) _⟩
end Go.Proofs.YtbmpfjmnedlahacDoor
